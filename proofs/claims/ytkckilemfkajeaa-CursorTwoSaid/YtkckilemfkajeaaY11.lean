/- CursorTwo. -/
import Derived.Test.YtkckilemfkajeaaY2
namespace Go.Proofs.Ytkckilemfkajeaa
open Go.RowKit
set_option maxRecDepth 100000

theorem two_many (w : World) (v : Value) (os : List Cl) (K V key : List Nat) (hv : Elems 3 cO w v os) (hf : fewB os = false ∨ (fewB os = true ∧ shortB K V = false)) : Calls Try.prog 16 #[v, two2 K V, .string (str key)] w (Yes w) := by
  obtain ⟨wB, HW⟩ : ∃ W, Hid (W = w.alloc (.cells #[.string (str K), .string (str V)] 48)) := ⟨_, rfl⟩
  obtain ⟨x0, x1, b0⟩ := boxed w K V 48
  rw [← HW.out] at x0 x1 b0
  have HB0 := hid b0
  have X0 := hid x0
  have X1 := hid x1
  clear x0 x1 b0
  rcases hf with hf | ⟨hf, hs⟩
  · unfold two2
    go_enter Try.func16, Try.ntmps16
    go_wp2_with fail
    rw [← HW.out]
    refine (few_any wB _ os (hv.below HB0.out)).mono ?_
    rw [hf]
    rintro e w1 ⟨rfl, rfl⟩
    go_wp2_with fail
    refine (awake5_yes _).mono ?_
    rintro e wz ⟨rfl, hbz⟩
    go_wp2
    go_ret
    exact ⟨rfl, below_step HB0.out (below_step (Below.refl _ _) hbz)⟩
  · unfold two2
    go_enter Try.func16, Try.ntmps16
    go_wp2_with fail
    rw [← HW.out]
    refine (few_any wB _ os (hv.below HB0.out)).mono ?_
    rw [hf]
    rintro e w1 ⟨rfl, rfl⟩
    have x0 := X0.out
    have x1 := X1.out
    go_wp2_with fail
    refine (short_any wB K V).mono ?_
    rw [hs]
    rintro e w2 ⟨rfl, hb2⟩
    have HB2 := hid hb2
    clear hb2
    go_wp2_with fail
    refine (awake5_yes _).mono ?_
    rintro e wz ⟨rfl, hbz⟩
    go_wp2
    go_ret
    exact ⟨rfl, below_step HB0.out (below_step HB2.out hbz)⟩
set_option maxHeartbeats 4000000 in
theorem two_key (w : World) (v : Value) (os : List Cl) (K V : List Nat) (key : List Nat) (hv : Elems 3 cO w v os) (hkl : 300 < key.length) (_hos : ClsOk os) (bK : Byt K) (bV : Byt V) (hf : fewB os = true) (hs : shortB K V = true) : Calls Try.prog 16 #[v, two2 K V, .string (str key)] w (Yes w) := by
  obtain ⟨wB, HW⟩ : ∃ W, Hid (W = w.alloc (.cells #[.string (str K), .string (str V)] 48)) := ⟨_, rfl⟩
  obtain ⟨x0, x1, b0⟩ := boxed w K V 48
  rw [← HW.out] at x0 x1 b0
  have HB0 := hid b0
  have X0 := hid x0
  have X1 := hid x1
  clear x0 x1 b0
  have BV := hid bV
  have BK := hid bK
  have HE := hid str_nil
  obtain ⟨hK, hV⟩ : K.length ≤ 300 ∧ V.length ≤ 300 := by unfold shortB at hs; exact of_decide_eq_true hs
  have hsk := str_size key
  have hki : (300 : Int) < key.length := by omega
  unfold two2
  go_enter Try.func16, Try.ntmps16
  go_wp2_with fail
  rw [← HW.out]
  refine (few_any wB _ os (hv.below HB0.out)).mono ?_
  rw [hf]
  rintro e w1 ⟨rfl, rfl⟩
  have x0 := X0.out
  have x1 := X1.out
  go_wp2_with fail
  refine (short_any wB K V).mono ?_
  rw [hs]
  rintro e w2 ⟨rfl, hb2⟩
  have HB2 := hid hb2
  clear hb2
  go_wp2_with fail
  refine (awake5_yes _).mono ?_
  rintro e wz ⟨rfl, hbz⟩
  go_wp2
  go_ret
  exact ⟨rfl, below_step HB0.out (below_step HB2.out hbz)⟩
set_option maxHeartbeats 4000000 in
theorem two_bad (w : World) (v : Value) (os : List Cl) (K V : List Nat) (key : List Nat) (hv : Elems 3 cO w v os) (hkl : key.length ≤ 300) (hos : ClsOk os) (bK : Byt K) (bV : Byt V) (hf : fewB os = true) (hs : shortB K V = true) (hn : V ≠ []) (hlt : V < K) : Calls Try.prog 16 #[v, two2 K V, .string (str key)] w (Yes w) := by
  obtain ⟨wB, HW⟩ : ∃ W, Hid (W = w.alloc (.cells #[.string (str K), .string (str V)] 48)) := ⟨_, rfl⟩
  obtain ⟨x0, x1, b0⟩ := boxed w K V 48
  rw [← HW.out] at x0 x1 b0
  have HB0 := hid b0
  have X0 := hid x0
  have X1 := hid x1
  clear x0 x1 b0
  obtain ⟨e1, e2⟩ := ne_nil_str hn
  have e3 : Op.bytesLess (str V).toList (str K).toList = true := by rw [less_str bV bK, decide_eq_true hlt]
  have BV := hid bV
  have BK := hid bK
  have HE := hid str_nil
  obtain ⟨hK, hV⟩ : K.length ≤ 300 ∧ V.length ≤ 300 := by unfold shortB at hs; exact of_decide_eq_true hs
  have hsk := str_size key
  have hki : ¬ (300 : Int) < key.length := by omega
  unfold two2
  go_enter Try.func16, Try.ntmps16
  go_wp2_with fail
  rw [← HW.out]
  refine (few_any wB _ os (hv.below HB0.out)).mono ?_
  rw [hf]
  rintro e w1 ⟨rfl, rfl⟩
  have x0 := X0.out
  have x1 := X1.out
  go_wp2_with fail
  refine (short_any wB K V).mono ?_
  rw [hs]
  rintro e w2 ⟨rfl, hb2⟩
  have HB2 := hid hb2
  clear hb2
  go_wp2_with fail
  refine (made_ok w2 2 (by decide) (by decide) v os ((hv.below HB0.out).below HB2.out) hos hf).mono ?_
  rintro e w1 ⟨a, p, P, G, rfl, hst⟩
  have HS : Hid (St wB w1 P G a p (runL [] os) 2) := ⟨hst.t, hst.r, hst.n, hst.m, ((Chg.of_below (F := []) HB2.out).less (K := []) (fun k hk => by cases hk)).trans hst.c⟩
  clear hst x0 x1
  have x0 := below_keep HS.out.since _ _ X0.out
  have x1 := below_keep HS.out.since _ _ X1.out
  go_wp2_with fail
  refine (new_bad _ a K V BK.out BV.out hn hlt).mono ?_
  rintro e w3 ⟨rfl, rfl⟩
  go_wp2_with fail
  refine (new_bad _ a K V BK.out BV.out hn hlt).mono ?_
  rintro e w4 ⟨rfl, rfl⟩
  go_wp2_with fail
  refine (awake5_yes _).mono ?_
  rintro e wz ⟨rfl, hbz⟩
  go_wp2
  go_ret
  exact ⟨rfl, below_step HB0.out (below_step HS.out.since hbz)⟩
set_option maxHeartbeats 4000000 in
theorem two_seek1B (w : World) (v : Value) (os : List Cl) (K : List Nat) (key : List Nat) (hv : Elems 3 cO w v os) (hkl : key.length ≤ 300) (bKey : Byt key) (hk : key < K) (hos : ClsOk os) (bK : Byt K) (hf : fewB os = true) (hs : shortB K [] = true) : Calls Try.prog 16 #[v, two2 K [], .string (str key)] w (Yes w) := by
  obtain ⟨wB, HW⟩ : ∃ W, Hid (W = w.alloc (.cells #[.string (str K), .string (str [])] 48)) := ⟨_, rfl⟩
  obtain ⟨x0, x1, b0⟩ := boxed w K [] 48
  rw [← HW.out] at x0 x1 b0
  rw [← str_nil] at x1
  have HB0 := hid b0
  have X0 := hid x0
  have X1 := hid x1
  clear x0 x1 b0
  have BK := hid bK
  have HE := hid str_nil
  obtain ⟨hK, hV⟩ : K.length ≤ 300 ∧ ([] : List Nat).length ≤ 300 := by unfold shortB at hs; exact of_decide_eq_true hs
  have hsk := str_size key
  have hki : ¬ (300 : Int) < key.length := by omega
  have e4 : Op.bytesLess (str key).toList (str K).toList = true := by rw [less_str bKey bK, decide_eq_true hk]
  have BKEY := hid bKey
  unfold two2
  go_enter Try.func16, Try.ntmps16
  go_wp2_with fail
  rw [← HW.out]
  refine (few_any wB _ os (hv.below HB0.out)).mono ?_
  rw [hf]
  rintro e w1 ⟨rfl, rfl⟩
  have x0 := X0.out
  have x1 := X1.out
  go_wp2_with fail
  rw [HE.out]
  refine (short_any wB K []).mono ?_
  rw [hs]
  rintro e w2 ⟨rfl, hb2⟩
  have HB2 := hid hb2
  clear hb2
  go_wp2_with fail
  refine (made_ok w2 2 (by decide) (by decide) v os ((hv.below HB0.out).below HB2.out) hos hf).mono ?_
  rintro e w1 ⟨a, p, P, G, rfl, hst⟩
  have HS : Hid (St wB w1 P G a p (runL [] os) 2) := ⟨hst.t, hst.r, hst.n, hst.m, ((Chg.of_below (F := []) HB2.out).less (K := []) (fun k hk => by cases hk)).trans hst.c⟩
  clear hst x0 x1
  have x0 := below_keep HS.out.since _ _ X0.out
  have x1 := below_keep HS.out.since _ _ X1.out
  have hLL := run_few hf
  obtain ⟨L, HLE⟩ : ∃ L, Hid (L = runL [] os) := ⟨_, rfl⟩
  have HKY : Hid (Keyed L) := by rw [HLE.out]; exact run_keyed os
  rw [← HLE.out] at HS hLL
  obtain ⟨ws0, rfl⟩ : ∃ ws0, ws0 = w1 := ⟨_, rfl⟩
  have hal := HS.out.t.lt
  have HU := hid HS.out.t.under
  go_wp2_with fail
  rw [HE.out]
  refine (new_ok _ a K [] BK.out (fun b hb => by cases hb) (by omega) (by decide) (.inl rfl)).mono ?_
  rintro e w3 ⟨c, rfl, hb3, hc3, hcur⟩
  have HB3 := hid hb3
  have HC3 := hid hcur
  have hcl := hcur.lt
  clear x0 x1 hb3 hcur
  have x0 := below_keep (below_step HS.out.since HB3.out) _ _ X0.out
  have x1 := below_keep (below_step HS.out.since HB3.out) _ _ X1.out
  go_wp2_with fail
  rw [HE.out]
  refine (new_ok _ a K [] BK.out (fun b hb => by cases hb) (by omega) (by decide) (.inl rfl)).mono ?_
  rintro e w4 ⟨d, rfl, hb4, hd4, hcur⟩
  have HB4 := hid (below_step HB3.out hb4)
  have HC4 := hid (HC3.out.below hb4)
  have HD4 := hid hcur
  have hdl := hcur.lt
  have hs34 := hb4.size
  clear x0 x1 hb4 hcur
  have x0 := below_keep (below_step HS.out.since HB4.out) _ _ X0.out
  have x1 := below_keep (below_step HS.out.since HB4.out) _ _ X1.out
  go_wp2_with fail
  refine (seek_bad HC4.out key BKEY.out BK.out (fun b hb => by cases hb) (.inl hk)).mono ?_
  rintro e w5 ⟨rfl, rfl⟩
  go_wp2_with fail
  refine (awake5_yes _).mono ?_
  rintro e wz ⟨rfl, hbz⟩
  go_wp2
  go_ret
  exact ⟨rfl, below_step HB0.out (below_step (below_step HS.out.since HB4.out) hbz)⟩
set_option maxHeartbeats 8000000 in
theorem two_okB (w : World) (v : Value) (os : List Cl) (K : List Nat) (key : List Nat) (hv : Elems 3 cO w v os) (hkl : key.length ≤ 300) (bKey : Byt key) (hk : ¬ key < K) (hos : ClsOk os) (bK : Byt K) (hf : fewB os = true) (hs : shortB K [] = true) : Calls Try.prog 16 #[v, two2 K [], .string (str key)] w (Yes w) := by
  obtain ⟨wB, HW⟩ : ∃ W, Hid (W = w.alloc (.cells #[.string (str K), .string (str [])] 48)) := ⟨_, rfl⟩
  obtain ⟨x0, x1, b0⟩ := boxed w K [] 48
  rw [← HW.out] at x0 x1 b0
  rw [← str_nil] at x1
  have HB0 := hid b0
  have X0 := hid x0
  have X1 := hid x1
  clear x0 x1 b0
  have BK := hid bK
  have HE := hid str_nil
  obtain ⟨hK, hV⟩ : K.length ≤ 300 ∧ ([] : List Nat).length ≤ 300 := by unfold shortB at hs; exact of_decide_eq_true hs
  have hsk := str_size key
  have hki : ¬ (300 : Int) < key.length := by omega
  have BKEY := hid bKey
  unfold two2
  go_enter Try.func16, Try.ntmps16
  go_wp2_with fail
  rw [← HW.out]
  refine (few_any wB _ os (hv.below HB0.out)).mono ?_
  rw [hf]
  rintro e w1 ⟨rfl, rfl⟩
  have x0 := X0.out
  have x1 := X1.out
  go_wp2_with fail
  rw [HE.out]
  refine (short_any wB K []).mono ?_
  rw [hs]
  rintro e w2 ⟨rfl, hb2⟩
  have HB2 := hid hb2
  clear hb2
  go_wp2_with fail
  refine (made_ok w2 2 (by decide) (by decide) v os ((hv.below HB0.out).below HB2.out) hos hf).mono ?_
  rintro e w1 ⟨a, p, P, G, rfl, hst⟩
  have HS : Hid (St wB w1 P G a p (runL [] os) 2) := ⟨hst.t, hst.r, hst.n, hst.m, ((Chg.of_below (F := []) HB2.out).less (K := []) (fun k hk => by cases hk)).trans hst.c⟩
  clear hst x0 x1
  have x0 := below_keep HS.out.since _ _ X0.out
  have x1 := below_keep HS.out.since _ _ X1.out
  have hLL := run_few hf
  obtain ⟨L, HLE⟩ : ∃ L, Hid (L = runL [] os) := ⟨_, rfl⟩
  have HKY : Hid (Keyed L) := by rw [HLE.out]; exact run_keyed os
  rw [← HLE.out] at HS hLL
  obtain ⟨ws0, rfl⟩ : ∃ ws0, ws0 = w1 := ⟨_, rfl⟩
  have hal := HS.out.t.lt
  have HU := hid HS.out.t.under
  go_wp2_with fail
  rw [HE.out]
  refine (new_ok _ a K [] BK.out (fun b hb => by cases hb) (by omega) (by decide) (.inl rfl)).mono ?_
  rintro e w3 ⟨c, rfl, hb3, hc3, hcur⟩
  have HB3 := hid hb3
  have HC3 := hid hcur
  have hcl := hcur.lt
  clear x0 x1 hb3 hcur
  have x0 := below_keep (below_step HS.out.since HB3.out) _ _ X0.out
  have x1 := below_keep (below_step HS.out.since HB3.out) _ _ X1.out
  go_wp2_with fail
  rw [HE.out]
  refine (new_ok _ a K [] BK.out (fun b hb => by cases hb) (by omega) (by decide) (.inl rfl)).mono ?_
  rintro e w4 ⟨d, rfl, hb4, hd4, hcur⟩
  have HB4 := hid (below_step HB3.out hb4)
  have HC4 := hid (HC3.out.below hb4)
  have HD4 := hid hcur
  have hdl := hcur.lt
  have hs34 := hb4.size
  clear x0 x1 hb4 hcur
  have x0 := below_keep (below_step HS.out.since HB4.out) _ _ X0.out
  have x1 := below_keep (below_step HS.out.since HB4.out) _ _ X1.out
  go_wp2_with fail
  refine (seek_ok HC4.out key BKEY.out BK.out (fun b hb => by cases hb) (by omega) hk (.inl rfl)).mono ?_
  rintro e w5 ⟨rfl, hcur, hch⟩
  have HC5 := hid hcur
  have HD5 := hid (HD4.out.chg hch (by simp; omega))
  have HT5 := hid ((HS.out.t.below HB4.out).chg hch (by simp; omega) (fun b hb h => by simp at hb; subst hb; have := HU.out _ h; omega))
  have HX5 : Hid (Chg [] ws0 w5 [c]) := ((Chg.of_below (F := []) HB4.out).less (K := [c]) (fun k hk => .inr (by simp at hk; omega))).trans hch
  have hs45 := hch.size
  clear x0 x1 hcur hch
  have hb5 := below_step HS.out.since (HX5.out.below (fun _ h => by cases h) (Nat.le_refl _))
  have x0 := below_keep hb5 _ _ X0.out
  have x1 := below_keep hb5 _ _ X1.out
  clear hb5
  go_wp2_with fail
  rw [HE.out]
  refine (new_ok _ a key [] BKEY.out (fun b hb => by cases hb) (by omega) (by decide) (.inl rfl)).mono ?_
  rintro e w6 ⟨g, rfl, hb6, hg6, hcur⟩
  have HC6 := hid (HC5.out.below hb6)
  have HD6 := hid (HD5.out.below hb6)
  have HG6 := hid hcur
  have HT6 := hid (HT5.out.below hb6)
  have HX6 := hid (HX5.out.step_below hb6)
  have hgl := hcur.lt
  have hs56 := hb6.size
  clear x0 x1 hcur hb6
  have hb6 := below_step HS.out.since (HX6.out.below (fun _ h => by cases h) (Nat.le_refl _))
  have x0 := below_keep hb6 _ _ X0.out
  have x1 := below_keep hb6 _ _ X1.out
  clear hb6
  go_wp2_with fail
  rw [HE.out]
  refine (scan_ok _ a 2 1000 K [] L P HT6.out (by omega) HKY.out BK.out (fun b hb => by cases hb) (by omega) (by decide) (.inl rfl) (by decide)).mono ?_
  rintro e ws ⟨gv, rfl, hown, hb7⟩
  obtain ⟨S, HSE⟩ : ∃ S, Hid (S = seg L [] (atN L K) 1000) := ⟨_, rfl⟩
  rw [← HSE.out] at hown
  obtain ⟨Ag, m, cg, rfl⟩ := hown.rows.form
  have HM : Hid (m = S.length) := hown.rows.cap.1
  have hm200 : m ≤ 200 := by
    have h1 := HM.out
    rw [HSE.out, seg_len] at h1
    have := endN_le L []
    omega
  have HOWN := hid hown
  have HC7 := hid (HC6.out.below hb7)
  have HD7 := hid (HD6.out.below hb7)
  have HG7 := hid (HG6.out.below hb7)
  have HT7 := hid (HT6.out.below hb7)
  have HX7 : Hid (Chg [] ws0 ws [c, g, d]) := (HX6.out.step_below hb7).less fun k hk => by
    simp at hk
    rcases hk with rfl | rfl | rfl
    · exact .inl (by simp)
    · exact .inr (by have := HB4.out.size; omega)
    · exact .inr (by have := HB3.out.size; omega)
  have HSEG : Hid (∀ k, k < 1000 → ∀ at2, atN L at2 = atN L K + k → nxt L [] at2 = S[k]?) := fun k hk at2 h => by rw [HSE.out]; exact nxt_seg HT7.out.rise hk h
  have HRI := hid HT7.out.rise
  have HBYT := hid HT7.out.byt
  obtain ⟨j0, HJ0⟩ : ∃ j, Hid (j = atN L K) := ⟨_, rfl⟩
  rw [← HJ0.out] at HSEG
  have HOLD : Hid (∀ wr, Chg [c, g, d] ws wr [c, g, d] → Elems 2 cP wr (.slice Ag m cg) S) := fun wr hc => (HOWN.out.keep fun b hb => hc.block b (HOWN.out.lt b hb).2 (fun h => by
    have := (HOWN.out.lt b hb).1
    simp at h
    omega)).rows
  clear hown hb7 x0 x1
  go_wp2
  go_loopw [17] (fun i wr => ∃ k : Nat, k ≤ m + 1 ∧ i = .int .i64 k ∧ ∃ atc atg atd, CurAt wr c a K [] atc ∧ CurAt wr g a key [] atg ∧ CurAt wr d a K [] atd ∧ Hid (atN L atc = atN L atg ∧ Byt atc ∧ Byt atg ∧ Byt atd ∧ atN L atd = j0 + min k m) ∧ TreeAt wr a 2 L P ∧ Chg [c, g, d] ws wr [c, g, d]) (fun i _ => m + 2 - (intOf i).toNat)
  case atStart => exact ⟨0, by omega, rfl, key, key, K, HC7.out, HG7.out, HD7.out, ⟨rfl, BKEY.out, BKEY.out, BK.out, by have := HJ0.out; omega⟩, HT7.out, Chg.refl _ _⟩
  case round =>
    obtain ⟨k, hk, rfl, atc, atg, atd, hcc, hcg, hcd, HAT, ht, hx⟩ := hrel
    have HC := hid hcc
    have HG := hid hcg
    have HD := hid hcd
    have HT := hid ht
    have HX := hid hx
    clear hcc hcg hcd ht hx
    by_cases hkm : k ≤ m
    · have hkmi : (k : Int) ≤ m := by omega
      have hne : nxt L [] atc = nxt L [] atg := by rw [nxt_at HRI.out, nxt_at HRI.out, HAT.out.1]
      have hnd := HSEG.out k (by omega) atd (by have := HAT.out.2.2.2.2; omega)
      cases hq : S[k]? with
      | none =>
        have hkl : k = m := by have := List.getElem?_eq_none_iff.1 hq; have := HM.out; omega
        have hkli : ¬ (k : Int) < m := by omega
        have HKM := hid hkl
        rw [hq] at hnd
        clear hq hkl
        cases hcx : nxt L [] atc with
        | none =>
          rw [hcx] at hne
          go_wp2_with fail
          refine (next_none HC.out HT.out (by omega) (fun b hb => by cases hb) HAT.out.2.1 hcx).mono ?_
          rintro e w11 ⟨rfl, hb⟩
          replace HC := hid (HC.out.below hb)
          replace HG := hid (HG.out.below hb)
          replace HD := hid (HD.out.below hb)
          replace HT := hid (HT.out.below hb)
          replace HX := hid (HX.out.step_below hb)
          clear hb
          go_wp2_with fail
          refine (next_none HG.out HT.out (by omega) (fun b hb => by cases hb) HAT.out.2.2.1 hne.symm).mono ?_
          rintro e w12 ⟨rfl, hb⟩
          replace HC := hid (HC.out.below hb)
          replace HG := hid (HG.out.below hb)
          replace HD := hid (HD.out.below hb)
          replace HT := hid (HT.out.below hb)
          replace HX := hid (HX.out.step_below hb)
          clear hb
          go_wp2_with fail
          refine (next_none HD.out HT.out (by omega) (fun b hb => by cases hb) HAT.out.2.2.2.1 hnd).mono ?_
          rintro e w13 ⟨rfl, hb⟩
          replace HC := hid (HC.out.below hb)
          replace HG := hid (HG.out.below hb)
          replace HD := hid (HD.out.below hb)
          replace HT := hid (HT.out.below hb)
          replace HX := hid (HX.out.step_below hb)
          clear hb
          go_wp2
          go_roundw
          case rel => exact ⟨k + 1, by omega, by go_num, atc, atg, atd, HC.out, HG.out, HD.out, ⟨HAT.out.1, HAT.out.2.1, HAT.out.2.2.1, HAT.out.2.2.2.1, by have := HAT.out.2.2.2.2; have := HKM.out; omega⟩, HT.out, HX.out⟩
          case measure => simp [intOf]; omega
        | some r =>
          rw [hcx] at hne
          have HBR := hid (HBYT.out r (by
            have h1 := hcx
            rw [nxt_at HRI.out] at h1
            split at h1
            · exact List.mem_of_getElem? h1
            · cases h1))
          go_wp2_with fail
          refine (next_some HC.out HT.out (by omega) HKY.out (fun b hb => by cases hb) HAT.out.2.1 hcx).mono ?_
          rintro e w11 ⟨rfl, hcu, hch⟩
          clear HC
          have HC := hid hcu
          replace HG := hid (HG.out.chg hch (by simp; omega))
          replace HD := hid (HD.out.chg hch (by simp; omega))
          replace HT := hid (HT.out.chg hch (by simp; omega) (fun b hb h => by simp at hb; subst hb; have := HU.out _ h; omega))
          replace HX := hid (HX.out.trans (hch.wide2 (K := [c, g, d]) (by simp)))
          clear hcu hch
          go_wp2_with fail
          refine (next_some HG.out HT.out (by omega) HKY.out (fun b hb => by cases hb) HAT.out.2.2.1 hne.symm).mono ?_
          rintro e w12 ⟨rfl, hcu, hch⟩
          clear HG
          have HG := hid hcu
          replace HC := hid (HC.out.chg hch (by simp; omega))
          replace HD := hid (HD.out.chg hch (by simp; omega))
          replace HT := hid (HT.out.chg hch (by simp; omega) (fun b hb h => by simp at hb; subst hb; have := HU.out _ h; omega))
          replace HX := hid (HX.out.trans (hch.wide2 (K := [c, g, d]) (by simp)))
          clear hcu hch
          go_wp2_with fail
          refine (next_none HD.out HT.out (by omega) (fun b hb => by cases hb) HAT.out.2.2.2.1 hnd).mono ?_
          rintro e w13 ⟨rfl, hb⟩
          replace HC := hid (HC.out.below hb)
          replace HG := hid (HG.out.below hb)
          replace HD := hid (HD.out.below hb)
          replace HT := hid (HT.out.below hb)
          replace HX := hid (HX.out.step_below hb)
          clear hb
          go_wp2
          go_roundw
          case rel => exact ⟨k + 1, by omega, by go_num, r.1 ++ [0], r.1 ++ [0], atd, HC.out, HG.out, HD.out, ⟨rfl, HBR.out.1.app (by intro b hb; simp at hb; omega), HBR.out.1.app (by intro b hb; simp at hb; omega), HAT.out.2.2.2.1, by have := HAT.out.2.2.2.2; have := HKM.out; omega⟩, HT.out, HX.out⟩
          case measure => simp [intOf]; omega
      | some q =>
        have hkl : k < m := by have := (List.getElem?_eq_some_iff.1 hq).1; have := HM.out; omega
        have hkli : (k : Int) < m := by omega
        have HKL := hid hkl
        have HBQ := hid (HBYT.out q (by
          have h1 := hnd
          rw [hq, nxt_at HRI.out] at h1
          split at h1
          · exact List.mem_of_getElem? h1
          · cases h1))
        have HQ := hid hq
        rw [hq] at hnd
        clear hq hkl
        cases hcx : nxt L [] atc with
        | none =>
          rw [hcx] at hne
          go_wp2_with fail
          refine (next_none HC.out HT.out (by omega) (fun b hb => by cases hb) HAT.out.2.1 hcx).mono ?_
          rintro e w11 ⟨rfl, hb⟩
          replace HC := hid (HC.out.below hb)
          replace HG := hid (HG.out.below hb)
          replace HD := hid (HD.out.below hb)
          replace HT := hid (HT.out.below hb)
          replace HX := hid (HX.out.step_below hb)
          clear hb
          go_wp2_with fail
          refine (next_none HG.out HT.out (by omega) (fun b hb => by cases hb) HAT.out.2.2.1 hne.symm).mono ?_
          rintro e w12 ⟨rfl, hb⟩
          replace HC := hid (HC.out.below hb)
          replace HG := hid (HG.out.below hb)
          replace HD := hid (HD.out.below hb)
          replace HT := hid (HT.out.below hb)
          replace HX := hid (HX.out.step_below hb)
          clear hb
          go_wp2_with fail
          refine (next_some HD.out HT.out (by omega) HKY.out (fun b hb => by cases hb) HAT.out.2.2.2.1 hnd).mono ?_
          rintro e w13 ⟨rfl, hcu, hch⟩
          clear HD
          have HD := hid hcu
          replace HC := hid (HC.out.chg hch (by simp; omega))
          replace HG := hid (HG.out.chg hch (by simp; omega))
          replace HT := hid (HT.out.chg hch (by simp; omega) (fun b hb h => by simp at hb; subst hb; have := HU.out _ h; omega))
          replace HX := hid (HX.out.trans (hch.wide2 (K := [c, g, d]) (by simp)))
          clear hcu hch
          obtain ⟨ad, rfl, q0, q1⟩ := (HOLD.out _ HX.out).pcell2 HQ.out
          go_wp2
          go_roundw
          case rel => exact ⟨k + 1, by omega, by go_num, atc, atg, q.1 ++ [0], HC.out, HG.out, HD.out, ⟨HAT.out.1, HAT.out.2.1, HAT.out.2.2.1, HBQ.out.1.app (by intro b hb; simp at hb; omega), by rw [atN_behind HRI.out hnd]; have := HAT.out.2.2.2.2; have := HKL.out; omega⟩, HT.out, HX.out⟩
          case measure => simp [intOf]; omega
        | some r =>
          rw [hcx] at hne
          have HBR := hid (HBYT.out r (by
            have h1 := hcx
            rw [nxt_at HRI.out] at h1
            split at h1
            · exact List.mem_of_getElem? h1
            · cases h1))
          go_wp2_with fail
          refine (next_some HC.out HT.out (by omega) HKY.out (fun b hb => by cases hb) HAT.out.2.1 hcx).mono ?_
          rintro e w11 ⟨rfl, hcu, hch⟩
          clear HC
          have HC := hid hcu
          replace HG := hid (HG.out.chg hch (by simp; omega))
          replace HD := hid (HD.out.chg hch (by simp; omega))
          replace HT := hid (HT.out.chg hch (by simp; omega) (fun b hb h => by simp at hb; subst hb; have := HU.out _ h; omega))
          replace HX := hid (HX.out.trans (hch.wide2 (K := [c, g, d]) (by simp)))
          clear hcu hch
          go_wp2_with fail
          refine (next_some HG.out HT.out (by omega) HKY.out (fun b hb => by cases hb) HAT.out.2.2.1 hne.symm).mono ?_
          rintro e w12 ⟨rfl, hcu, hch⟩
          clear HG
          have HG := hid hcu
          replace HC := hid (HC.out.chg hch (by simp; omega))
          replace HD := hid (HD.out.chg hch (by simp; omega))
          replace HT := hid (HT.out.chg hch (by simp; omega) (fun b hb h => by simp at hb; subst hb; have := HU.out _ h; omega))
          replace HX := hid (HX.out.trans (hch.wide2 (K := [c, g, d]) (by simp)))
          clear hcu hch
          go_wp2_with fail
          refine (next_some HD.out HT.out (by omega) HKY.out (fun b hb => by cases hb) HAT.out.2.2.2.1 hnd).mono ?_
          rintro e w13 ⟨rfl, hcu, hch⟩
          clear HD
          have HD := hid hcu
          replace HC := hid (HC.out.chg hch (by simp; omega))
          replace HG := hid (HG.out.chg hch (by simp; omega))
          replace HT := hid (HT.out.chg hch (by simp; omega) (fun b hb h => by simp at hb; subst hb; have := HU.out _ h; omega))
          replace HX := hid (HX.out.trans (hch.wide2 (K := [c, g, d]) (by simp)))
          clear hcu hch
          obtain ⟨ad, rfl, q0, q1⟩ := (HOLD.out _ HX.out).pcell2 HQ.out
          go_wp2
          go_roundw
          case rel => exact ⟨k + 1, by omega, by go_num, r.1 ++ [0], r.1 ++ [0], q.1 ++ [0], HC.out, HG.out, HD.out, ⟨rfl, HBR.out.1.app (by intro b hb; simp at hb; omega), HBR.out.1.app (by intro b hb; simp at hb; omega), HBQ.out.1.app (by intro b hb; simp at hb; omega), by rw [atN_behind HRI.out hnd]; have := HAT.out.2.2.2.2; have := HKL.out; omega⟩, HT.out, HX.out⟩
          case measure => simp [intOf]; omega
    · obtain rfl : k = m + 1 := by omega
      have hki2 : ¬ ((m + 1 : Nat) : Int) ≤ m := by omega
      go_wp2_with fail
      refine (awake5_yes _).mono ?_
      rintro e wz ⟨rfl, hbz⟩
      go_wp2
      go_ret
      exact ⟨rfl, below_step HB0.out (below_step (below_step HS.out.since ((HX7.out.trans HX.out).below (fun _ h => by cases h) (Nat.le_refl _))) hbz)⟩
set_option maxHeartbeats 4000000 in
theorem two_seek1C (w : World) (v : Value) (os : List Cl) (K V : List Nat) (key : List Nat) (hv : Elems 3 cO w v os) (hkl : key.length ≤ 300) (bKey : Byt key) (hk : key < K) (hos : ClsOk os) (bK : Byt K) (bV : Byt V) (hf : fewB os = true) (hs : shortB K V = true) (hn : V ≠ []) (hlt : ¬ V < K) : Calls Try.prog 16 #[v, two2 K V, .string (str key)] w (Yes w) := by
  obtain ⟨wB, HW⟩ : ∃ W, Hid (W = w.alloc (.cells #[.string (str K), .string (str V)] 48)) := ⟨_, rfl⟩
  obtain ⟨x0, x1, b0⟩ := boxed w K V 48
  rw [← HW.out] at x0 x1 b0
  have HB0 := hid b0
  have X0 := hid x0
  have X1 := hid x1
  clear x0 x1 b0
  obtain ⟨e1, e2⟩ := ne_nil_str hn
  have e3 : Op.bytesLess (str V).toList (str K).toList = false := by rw [less_str bV bK, decide_eq_false hlt]
  have BV := hid bV
  have BK := hid bK
  have HE := hid str_nil
  obtain ⟨hK, hV⟩ : K.length ≤ 300 ∧ V.length ≤ 300 := by unfold shortB at hs; exact of_decide_eq_true hs
  have hsk := str_size key
  have hki : ¬ (300 : Int) < key.length := by omega
  have e4 : Op.bytesLess (str key).toList (str K).toList = true := by rw [less_str bKey bK, decide_eq_true hk]
  have BKEY := hid bKey
  unfold two2
  go_enter Try.func16, Try.ntmps16
  go_wp2_with fail
  rw [← HW.out]
  refine (few_any wB _ os (hv.below HB0.out)).mono ?_
  rw [hf]
  rintro e w1 ⟨rfl, rfl⟩
  have x0 := X0.out
  have x1 := X1.out
  go_wp2_with fail
  refine (short_any wB K V).mono ?_
  rw [hs]
  rintro e w2 ⟨rfl, hb2⟩
  have HB2 := hid hb2
  clear hb2
  go_wp2_with fail
  refine (made_ok w2 2 (by decide) (by decide) v os ((hv.below HB0.out).below HB2.out) hos hf).mono ?_
  rintro e w1 ⟨a, p, P, G, rfl, hst⟩
  have HS : Hid (St wB w1 P G a p (runL [] os) 2) := ⟨hst.t, hst.r, hst.n, hst.m, ((Chg.of_below (F := []) HB2.out).less (K := []) (fun k hk => by cases hk)).trans hst.c⟩
  clear hst x0 x1
  have x0 := below_keep HS.out.since _ _ X0.out
  have x1 := below_keep HS.out.since _ _ X1.out
  have hLL := run_few hf
  obtain ⟨L, HLE⟩ : ∃ L, Hid (L = runL [] os) := ⟨_, rfl⟩
  have HKY : Hid (Keyed L) := by rw [HLE.out]; exact run_keyed os
  rw [← HLE.out] at HS hLL
  obtain ⟨ws0, rfl⟩ : ∃ ws0, ws0 = w1 := ⟨_, rfl⟩
  have hal := HS.out.t.lt
  have HU := hid HS.out.t.under
  go_wp2_with fail
  refine (new_ok _ a K V BK.out BV.out (by omega) (by omega) (.inr hlt)).mono ?_
  rintro e w3 ⟨c, rfl, hb3, hc3, hcur⟩
  have HB3 := hid hb3
  have HC3 := hid hcur
  have hcl := hcur.lt
  clear x0 x1 hb3 hcur
  have x0 := below_keep (below_step HS.out.since HB3.out) _ _ X0.out
  have x1 := below_keep (below_step HS.out.since HB3.out) _ _ X1.out
  go_wp2_with fail
  refine (new_ok _ a K V BK.out BV.out (by omega) (by omega) (.inr hlt)).mono ?_
  rintro e w4 ⟨d, rfl, hb4, hd4, hcur⟩
  have HB4 := hid (below_step HB3.out hb4)
  have HC4 := hid (HC3.out.below hb4)
  have HD4 := hid hcur
  have hdl := hcur.lt
  have hs34 := hb4.size
  clear x0 x1 hb4 hcur
  have x0 := below_keep (below_step HS.out.since HB4.out) _ _ X0.out
  have x1 := below_keep (below_step HS.out.since HB4.out) _ _ X1.out
  go_wp2_with fail
  refine (seek_bad HC4.out key BKEY.out BK.out BV.out (.inl hk)).mono ?_
  rintro e w5 ⟨rfl, rfl⟩
  go_wp2_with fail
  refine (awake5_yes _).mono ?_
  rintro e wz ⟨rfl, hbz⟩
  go_wp2
  go_ret
  exact ⟨rfl, below_step HB0.out (below_step (below_step HS.out.since HB4.out) hbz)⟩
set_option maxHeartbeats 4000000 in
theorem two_seek2C (w : World) (v : Value) (os : List Cl) (K V : List Nat) (key : List Nat) (hv : Elems 3 cO w v os) (hkl : key.length ≤ 300) (bKey : Byt key) (hk : ¬ key < K) (hk2 : V < key) (hos : ClsOk os) (bK : Byt K) (bV : Byt V) (hf : fewB os = true) (hs : shortB K V = true) (hn : V ≠ []) (hlt : ¬ V < K) : Calls Try.prog 16 #[v, two2 K V, .string (str key)] w (Yes w) := by
  obtain ⟨wB, HW⟩ : ∃ W, Hid (W = w.alloc (.cells #[.string (str K), .string (str V)] 48)) := ⟨_, rfl⟩
  obtain ⟨x0, x1, b0⟩ := boxed w K V 48
  rw [← HW.out] at x0 x1 b0
  have HB0 := hid b0
  have X0 := hid x0
  have X1 := hid x1
  clear x0 x1 b0
  obtain ⟨e1, e2⟩ := ne_nil_str hn
  have e3 : Op.bytesLess (str V).toList (str K).toList = false := by rw [less_str bV bK, decide_eq_false hlt]
  have BV := hid bV
  have BK := hid bK
  have HE := hid str_nil
  obtain ⟨hK, hV⟩ : K.length ≤ 300 ∧ V.length ≤ 300 := by unfold shortB at hs; exact of_decide_eq_true hs
  have hsk := str_size key
  have hki : ¬ (300 : Int) < key.length := by omega
  have e4 : Op.bytesLess (str key).toList (str K).toList = false := by rw [less_str bKey bK, decide_eq_false hk]
  have e5 : Op.bytesLess (str key).toList (str V).toList = false := by rw [less_str bKey bV, decide_eq_false (fun h => List.lt_irrefl _ (List.lt_trans hk2 h))]
  have e6 : ¬ (str key).toList = (str V).toList := fun e => by rw [str_toList, str_toList] at e; rw [ofNat_inj bKey bV e] at hk2; exact List.lt_irrefl _ hk2
  have e7 : ((str key).toList == (str V).toList) = false := by rw [beq_eq_false_iff_ne]; exact e6
  have BKEY := hid bKey
  unfold two2
  go_enter Try.func16, Try.ntmps16
  go_wp2_with fail
  rw [← HW.out]
  refine (few_any wB _ os (hv.below HB0.out)).mono ?_
  rw [hf]
  rintro e w1 ⟨rfl, rfl⟩
  have x0 := X0.out
  have x1 := X1.out
  go_wp2_with fail
  refine (short_any wB K V).mono ?_
  rw [hs]
  rintro e w2 ⟨rfl, hb2⟩
  have HB2 := hid hb2
  clear hb2
  go_wp2_with fail
  refine (made_ok w2 2 (by decide) (by decide) v os ((hv.below HB0.out).below HB2.out) hos hf).mono ?_
  rintro e w1 ⟨a, p, P, G, rfl, hst⟩
  have HS : Hid (St wB w1 P G a p (runL [] os) 2) := ⟨hst.t, hst.r, hst.n, hst.m, ((Chg.of_below (F := []) HB2.out).less (K := []) (fun k hk => by cases hk)).trans hst.c⟩
  clear hst x0 x1
  have x0 := below_keep HS.out.since _ _ X0.out
  have x1 := below_keep HS.out.since _ _ X1.out
  have hLL := run_few hf
  obtain ⟨L, HLE⟩ : ∃ L, Hid (L = runL [] os) := ⟨_, rfl⟩
  have HKY : Hid (Keyed L) := by rw [HLE.out]; exact run_keyed os
  rw [← HLE.out] at HS hLL
  obtain ⟨ws0, rfl⟩ : ∃ ws0, ws0 = w1 := ⟨_, rfl⟩
  have hal := HS.out.t.lt
  have HU := hid HS.out.t.under
  go_wp2_with fail
  refine (new_ok _ a K V BK.out BV.out (by omega) (by omega) (.inr hlt)).mono ?_
  rintro e w3 ⟨c, rfl, hb3, hc3, hcur⟩
  have HB3 := hid hb3
  have HC3 := hid hcur
  have hcl := hcur.lt
  clear x0 x1 hb3 hcur
  have x0 := below_keep (below_step HS.out.since HB3.out) _ _ X0.out
  have x1 := below_keep (below_step HS.out.since HB3.out) _ _ X1.out
  go_wp2_with fail
  refine (new_ok _ a K V BK.out BV.out (by omega) (by omega) (.inr hlt)).mono ?_
  rintro e w4 ⟨d, rfl, hb4, hd4, hcur⟩
  have HB4 := hid (below_step HB3.out hb4)
  have HC4 := hid (HC3.out.below hb4)
  have HD4 := hid hcur
  have hdl := hcur.lt
  have hs34 := hb4.size
  clear x0 x1 hb4 hcur
  have x0 := below_keep (below_step HS.out.since HB4.out) _ _ X0.out
  have x1 := below_keep (below_step HS.out.since HB4.out) _ _ X1.out
  go_wp2_with fail
  refine (seek_bad HC4.out key BKEY.out BK.out BV.out (.inr ⟨hk, hn, hk2⟩)).mono ?_
  rintro e w5 ⟨rfl, rfl⟩
  go_wp2_with fail
  refine (awake5_yes _).mono ?_
  rintro e wz ⟨rfl, hbz⟩
  go_wp2
  go_ret
  exact ⟨rfl, below_step HB0.out (below_step (below_step HS.out.since HB4.out) hbz)⟩
set_option maxHeartbeats 8000000 in
theorem two_okC (w : World) (v : Value) (os : List Cl) (K V : List Nat) (key : List Nat) (hv : Elems 3 cO w v os) (hkl : key.length ≤ 300) (bKey : Byt key) (hk : ¬ key < K) (hk2 : ¬ V < key) (hos : ClsOk os) (bK : Byt K) (bV : Byt V) (hf : fewB os = true) (hs : shortB K V = true) (hn : V ≠ []) (hlt : ¬ V < K) : Calls Try.prog 16 #[v, two2 K V, .string (str key)] w (Yes w) := by
  obtain ⟨wB, HW⟩ : ∃ W, Hid (W = w.alloc (.cells #[.string (str K), .string (str V)] 48)) := ⟨_, rfl⟩
  obtain ⟨x0, x1, b0⟩ := boxed w K V 48
  rw [← HW.out] at x0 x1 b0
  have HB0 := hid b0
  have X0 := hid x0
  have X1 := hid x1
  clear x0 x1 b0
  obtain ⟨e1, e2⟩ := ne_nil_str hn
  have e3 : Op.bytesLess (str V).toList (str K).toList = false := by rw [less_str bV bK, decide_eq_false hlt]
  have BV := hid bV
  have BK := hid bK
  have HE := hid str_nil
  obtain ⟨hK, hV⟩ : K.length ≤ 300 ∧ V.length ≤ 300 := by unfold shortB at hs; exact of_decide_eq_true hs
  have hsk := str_size key
  have hki : ¬ (300 : Int) < key.length := by omega
  have BKEY := hid bKey
  unfold two2
  go_enter Try.func16, Try.ntmps16
  go_wp2_with fail
  rw [← HW.out]
  refine (few_any wB _ os (hv.below HB0.out)).mono ?_
  rw [hf]
  rintro e w1 ⟨rfl, rfl⟩
  have x0 := X0.out
  have x1 := X1.out
  go_wp2_with fail
  refine (short_any wB K V).mono ?_
  rw [hs]
  rintro e w2 ⟨rfl, hb2⟩
  have HB2 := hid hb2
  clear hb2
  go_wp2_with fail
  refine (made_ok w2 2 (by decide) (by decide) v os ((hv.below HB0.out).below HB2.out) hos hf).mono ?_
  rintro e w1 ⟨a, p, P, G, rfl, hst⟩
  have HS : Hid (St wB w1 P G a p (runL [] os) 2) := ⟨hst.t, hst.r, hst.n, hst.m, ((Chg.of_below (F := []) HB2.out).less (K := []) (fun k hk => by cases hk)).trans hst.c⟩
  clear hst x0 x1
  have x0 := below_keep HS.out.since _ _ X0.out
  have x1 := below_keep HS.out.since _ _ X1.out
  have hLL := run_few hf
  obtain ⟨L, HLE⟩ : ∃ L, Hid (L = runL [] os) := ⟨_, rfl⟩
  have HKY : Hid (Keyed L) := by rw [HLE.out]; exact run_keyed os
  rw [← HLE.out] at HS hLL
  obtain ⟨ws0, rfl⟩ : ∃ ws0, ws0 = w1 := ⟨_, rfl⟩
  have hal := HS.out.t.lt
  have HU := hid HS.out.t.under
  go_wp2_with fail
  refine (new_ok _ a K V BK.out BV.out (by omega) (by omega) (.inr hlt)).mono ?_
  rintro e w3 ⟨c, rfl, hb3, hc3, hcur⟩
  have HB3 := hid hb3
  have HC3 := hid hcur
  have hcl := hcur.lt
  clear x0 x1 hb3 hcur
  have x0 := below_keep (below_step HS.out.since HB3.out) _ _ X0.out
  have x1 := below_keep (below_step HS.out.since HB3.out) _ _ X1.out
  go_wp2_with fail
  refine (new_ok _ a K V BK.out BV.out (by omega) (by omega) (.inr hlt)).mono ?_
  rintro e w4 ⟨d, rfl, hb4, hd4, hcur⟩
  have HB4 := hid (below_step HB3.out hb4)
  have HC4 := hid (HC3.out.below hb4)
  have HD4 := hid hcur
  have hdl := hcur.lt
  have hs34 := hb4.size
  clear x0 x1 hb4 hcur
  have x0 := below_keep (below_step HS.out.since HB4.out) _ _ X0.out
  have x1 := below_keep (below_step HS.out.since HB4.out) _ _ X1.out
  go_wp2_with fail
  refine (seek_ok HC4.out key BKEY.out BK.out BV.out (by omega) hk (.inr hk2)).mono ?_
  rintro e w5 ⟨rfl, hcur, hch⟩
  have HC5 := hid hcur
  have HD5 := hid (HD4.out.chg hch (by simp; omega))
  have HT5 := hid ((HS.out.t.below HB4.out).chg hch (by simp; omega) (fun b hb h => by simp at hb; subst hb; have := HU.out _ h; omega))
  have HX5 : Hid (Chg [] ws0 w5 [c]) := ((Chg.of_below (F := []) HB4.out).less (K := [c]) (fun k hk => .inr (by simp at hk; omega))).trans hch
  have hs45 := hch.size
  clear x0 x1 hcur hch
  have hb5 := below_step HS.out.since (HX5.out.below (fun _ h => by cases h) (Nat.le_refl _))
  have x0 := below_keep hb5 _ _ X0.out
  have x1 := below_keep hb5 _ _ X1.out
  clear hb5
  go_wp2_with fail
  refine (new_ok _ a key V BKEY.out BV.out (by omega) (by omega) (.inr hk2)).mono ?_
  rintro e w6 ⟨g, rfl, hb6, hg6, hcur⟩
  have HC6 := hid (HC5.out.below hb6)
  have HD6 := hid (HD5.out.below hb6)
  have HG6 := hid hcur
  have HT6 := hid (HT5.out.below hb6)
  have HX6 := hid (HX5.out.step_below hb6)
  have hgl := hcur.lt
  have hs56 := hb6.size
  clear x0 x1 hcur hb6
  have hb6 := below_step HS.out.since (HX6.out.below (fun _ h => by cases h) (Nat.le_refl _))
  have x0 := below_keep hb6 _ _ X0.out
  have x1 := below_keep hb6 _ _ X1.out
  clear hb6
  go_wp2_with fail
  refine (scan_ok _ a 2 1000 K V L P HT6.out (by omega) HKY.out BK.out BV.out (by omega) (by omega) (.inr hlt) (by decide)).mono ?_
  rintro e ws ⟨gv, rfl, hown, hb7⟩
  obtain ⟨S, HSE⟩ : ∃ S, Hid (S = seg L V (atN L K) 1000) := ⟨_, rfl⟩
  rw [← HSE.out] at hown
  obtain ⟨Ag, m, cg, rfl⟩ := hown.rows.form
  have HM : Hid (m = S.length) := hown.rows.cap.1
  have hm200 : m ≤ 200 := by
    have h1 := HM.out
    rw [HSE.out, seg_len] at h1
    have := endN_le L V
    omega
  have HOWN := hid hown
  have HC7 := hid (HC6.out.below hb7)
  have HD7 := hid (HD6.out.below hb7)
  have HG7 := hid (HG6.out.below hb7)
  have HT7 := hid (HT6.out.below hb7)
  have HX7 : Hid (Chg [] ws0 ws [c, g, d]) := (HX6.out.step_below hb7).less fun k hk => by
    simp at hk
    rcases hk with rfl | rfl | rfl
    · exact .inl (by simp)
    · exact .inr (by have := HB4.out.size; omega)
    · exact .inr (by have := HB3.out.size; omega)
  have HSEG : Hid (∀ k, k < 1000 → ∀ at2, atN L at2 = atN L K + k → nxt L V at2 = S[k]?) := fun k hk at2 h => by rw [HSE.out]; exact nxt_seg HT7.out.rise hk h
  have HRI := hid HT7.out.rise
  have HBYT := hid HT7.out.byt
  obtain ⟨j0, HJ0⟩ : ∃ j, Hid (j = atN L K) := ⟨_, rfl⟩
  rw [← HJ0.out] at HSEG
  have HOLD : Hid (∀ wr, Chg [c, g, d] ws wr [c, g, d] → Elems 2 cP wr (.slice Ag m cg) S) := fun wr hc => (HOWN.out.keep fun b hb => hc.block b (HOWN.out.lt b hb).2 (fun h => by
    have := (HOWN.out.lt b hb).1
    simp at h
    omega)).rows
  clear hown hb7 x0 x1
  go_wp2
  go_loopw [17] (fun i wr => ∃ k : Nat, k ≤ m + 1 ∧ i = .int .i64 k ∧ ∃ atc atg atd, CurAt wr c a K V atc ∧ CurAt wr g a key V atg ∧ CurAt wr d a K V atd ∧ Hid (atN L atc = atN L atg ∧ Byt atc ∧ Byt atg ∧ Byt atd ∧ atN L atd = j0 + min k m) ∧ TreeAt wr a 2 L P ∧ Chg [c, g, d] ws wr [c, g, d]) (fun i _ => m + 2 - (intOf i).toNat)
  case atStart => exact ⟨0, by omega, rfl, key, key, K, HC7.out, HG7.out, HD7.out, ⟨rfl, BKEY.out, BKEY.out, BK.out, by have := HJ0.out; omega⟩, HT7.out, Chg.refl _ _⟩
  case round =>
    obtain ⟨k, hk, rfl, atc, atg, atd, hcc, hcg, hcd, HAT, ht, hx⟩ := hrel
    have HC := hid hcc
    have HG := hid hcg
    have HD := hid hcd
    have HT := hid ht
    have HX := hid hx
    clear hcc hcg hcd ht hx
    by_cases hkm : k ≤ m
    · have hkmi : (k : Int) ≤ m := by omega
      have hne : nxt L V atc = nxt L V atg := by rw [nxt_at HRI.out, nxt_at HRI.out, HAT.out.1]
      have hnd := HSEG.out k (by omega) atd (by have := HAT.out.2.2.2.2; omega)
      cases hq : S[k]? with
      | none =>
        have hkl : k = m := by have := List.getElem?_eq_none_iff.1 hq; have := HM.out; omega
        have hkli : ¬ (k : Int) < m := by omega
        have HKM := hid hkl
        rw [hq] at hnd
        clear hq hkl
        cases hcx : nxt L V atc with
        | none =>
          rw [hcx] at hne
          go_wp2_with fail
          refine (next_none HC.out HT.out (by omega) BV.out HAT.out.2.1 hcx).mono ?_
          rintro e w11 ⟨rfl, hb⟩
          replace HC := hid (HC.out.below hb)
          replace HG := hid (HG.out.below hb)
          replace HD := hid (HD.out.below hb)
          replace HT := hid (HT.out.below hb)
          replace HX := hid (HX.out.step_below hb)
          clear hb
          go_wp2_with fail
          refine (next_none HG.out HT.out (by omega) BV.out HAT.out.2.2.1 hne.symm).mono ?_
          rintro e w12 ⟨rfl, hb⟩
          replace HC := hid (HC.out.below hb)
          replace HG := hid (HG.out.below hb)
          replace HD := hid (HD.out.below hb)
          replace HT := hid (HT.out.below hb)
          replace HX := hid (HX.out.step_below hb)
          clear hb
          go_wp2_with fail
          refine (next_none HD.out HT.out (by omega) BV.out HAT.out.2.2.2.1 hnd).mono ?_
          rintro e w13 ⟨rfl, hb⟩
          replace HC := hid (HC.out.below hb)
          replace HG := hid (HG.out.below hb)
          replace HD := hid (HD.out.below hb)
          replace HT := hid (HT.out.below hb)
          replace HX := hid (HX.out.step_below hb)
          clear hb
          go_wp2
          go_roundw
          case rel => exact ⟨k + 1, by omega, by go_num, atc, atg, atd, HC.out, HG.out, HD.out, ⟨HAT.out.1, HAT.out.2.1, HAT.out.2.2.1, HAT.out.2.2.2.1, by have := HAT.out.2.2.2.2; have := HKM.out; omega⟩, HT.out, HX.out⟩
          case measure => simp [intOf]; omega
        | some r =>
          rw [hcx] at hne
          have HBR := hid (HBYT.out r (by
            have h1 := hcx
            rw [nxt_at HRI.out] at h1
            split at h1
            · exact List.mem_of_getElem? h1
            · cases h1))
          go_wp2_with fail
          refine (next_some HC.out HT.out (by omega) HKY.out BV.out HAT.out.2.1 hcx).mono ?_
          rintro e w11 ⟨rfl, hcu, hch⟩
          clear HC
          have HC := hid hcu
          replace HG := hid (HG.out.chg hch (by simp; omega))
          replace HD := hid (HD.out.chg hch (by simp; omega))
          replace HT := hid (HT.out.chg hch (by simp; omega) (fun b hb h => by simp at hb; subst hb; have := HU.out _ h; omega))
          replace HX := hid (HX.out.trans (hch.wide2 (K := [c, g, d]) (by simp)))
          clear hcu hch
          go_wp2_with fail
          refine (next_some HG.out HT.out (by omega) HKY.out BV.out HAT.out.2.2.1 hne.symm).mono ?_
          rintro e w12 ⟨rfl, hcu, hch⟩
          clear HG
          have HG := hid hcu
          replace HC := hid (HC.out.chg hch (by simp; omega))
          replace HD := hid (HD.out.chg hch (by simp; omega))
          replace HT := hid (HT.out.chg hch (by simp; omega) (fun b hb h => by simp at hb; subst hb; have := HU.out _ h; omega))
          replace HX := hid (HX.out.trans (hch.wide2 (K := [c, g, d]) (by simp)))
          clear hcu hch
          go_wp2_with fail
          refine (next_none HD.out HT.out (by omega) BV.out HAT.out.2.2.2.1 hnd).mono ?_
          rintro e w13 ⟨rfl, hb⟩
          replace HC := hid (HC.out.below hb)
          replace HG := hid (HG.out.below hb)
          replace HD := hid (HD.out.below hb)
          replace HT := hid (HT.out.below hb)
          replace HX := hid (HX.out.step_below hb)
          clear hb
          go_wp2
          go_roundw
          case rel => exact ⟨k + 1, by omega, by go_num, r.1 ++ [0], r.1 ++ [0], atd, HC.out, HG.out, HD.out, ⟨rfl, HBR.out.1.app (by intro b hb; simp at hb; omega), HBR.out.1.app (by intro b hb; simp at hb; omega), HAT.out.2.2.2.1, by have := HAT.out.2.2.2.2; have := HKM.out; omega⟩, HT.out, HX.out⟩
          case measure => simp [intOf]; omega
      | some q =>
        have hkl : k < m := by have := (List.getElem?_eq_some_iff.1 hq).1; have := HM.out; omega
        have hkli : (k : Int) < m := by omega
        have HKL := hid hkl
        have HBQ := hid (HBYT.out q (by
          have h1 := hnd
          rw [hq, nxt_at HRI.out] at h1
          split at h1
          · exact List.mem_of_getElem? h1
          · cases h1))
        have HQ := hid hq
        rw [hq] at hnd
        clear hq hkl
        cases hcx : nxt L V atc with
        | none =>
          rw [hcx] at hne
          go_wp2_with fail
          refine (next_none HC.out HT.out (by omega) BV.out HAT.out.2.1 hcx).mono ?_
          rintro e w11 ⟨rfl, hb⟩
          replace HC := hid (HC.out.below hb)
          replace HG := hid (HG.out.below hb)
          replace HD := hid (HD.out.below hb)
          replace HT := hid (HT.out.below hb)
          replace HX := hid (HX.out.step_below hb)
          clear hb
          go_wp2_with fail
          refine (next_none HG.out HT.out (by omega) BV.out HAT.out.2.2.1 hne.symm).mono ?_
          rintro e w12 ⟨rfl, hb⟩
          replace HC := hid (HC.out.below hb)
          replace HG := hid (HG.out.below hb)
          replace HD := hid (HD.out.below hb)
          replace HT := hid (HT.out.below hb)
          replace HX := hid (HX.out.step_below hb)
          clear hb
          go_wp2_with fail
          refine (next_some HD.out HT.out (by omega) HKY.out BV.out HAT.out.2.2.2.1 hnd).mono ?_
          rintro e w13 ⟨rfl, hcu, hch⟩
          clear HD
          have HD := hid hcu
          replace HC := hid (HC.out.chg hch (by simp; omega))
          replace HG := hid (HG.out.chg hch (by simp; omega))
          replace HT := hid (HT.out.chg hch (by simp; omega) (fun b hb h => by simp at hb; subst hb; have := HU.out _ h; omega))
          replace HX := hid (HX.out.trans (hch.wide2 (K := [c, g, d]) (by simp)))
          clear hcu hch
          obtain ⟨ad, rfl, q0, q1⟩ := (HOLD.out _ HX.out).pcell2 HQ.out
          go_wp2
          go_roundw
          case rel => exact ⟨k + 1, by omega, by go_num, atc, atg, q.1 ++ [0], HC.out, HG.out, HD.out, ⟨HAT.out.1, HAT.out.2.1, HAT.out.2.2.1, HBQ.out.1.app (by intro b hb; simp at hb; omega), by rw [atN_behind HRI.out hnd]; have := HAT.out.2.2.2.2; have := HKL.out; omega⟩, HT.out, HX.out⟩
          case measure => simp [intOf]; omega
        | some r =>
          rw [hcx] at hne
          have HBR := hid (HBYT.out r (by
            have h1 := hcx
            rw [nxt_at HRI.out] at h1
            split at h1
            · exact List.mem_of_getElem? h1
            · cases h1))
          go_wp2_with fail
          refine (next_some HC.out HT.out (by omega) HKY.out BV.out HAT.out.2.1 hcx).mono ?_
          rintro e w11 ⟨rfl, hcu, hch⟩
          clear HC
          have HC := hid hcu
          replace HG := hid (HG.out.chg hch (by simp; omega))
          replace HD := hid (HD.out.chg hch (by simp; omega))
          replace HT := hid (HT.out.chg hch (by simp; omega) (fun b hb h => by simp at hb; subst hb; have := HU.out _ h; omega))
          replace HX := hid (HX.out.trans (hch.wide2 (K := [c, g, d]) (by simp)))
          clear hcu hch
          go_wp2_with fail
          refine (next_some HG.out HT.out (by omega) HKY.out BV.out HAT.out.2.2.1 hne.symm).mono ?_
          rintro e w12 ⟨rfl, hcu, hch⟩
          clear HG
          have HG := hid hcu
          replace HC := hid (HC.out.chg hch (by simp; omega))
          replace HD := hid (HD.out.chg hch (by simp; omega))
          replace HT := hid (HT.out.chg hch (by simp; omega) (fun b hb h => by simp at hb; subst hb; have := HU.out _ h; omega))
          replace HX := hid (HX.out.trans (hch.wide2 (K := [c, g, d]) (by simp)))
          clear hcu hch
          go_wp2_with fail
          refine (next_some HD.out HT.out (by omega) HKY.out BV.out HAT.out.2.2.2.1 hnd).mono ?_
          rintro e w13 ⟨rfl, hcu, hch⟩
          clear HD
          have HD := hid hcu
          replace HC := hid (HC.out.chg hch (by simp; omega))
          replace HG := hid (HG.out.chg hch (by simp; omega))
          replace HT := hid (HT.out.chg hch (by simp; omega) (fun b hb h => by simp at hb; subst hb; have := HU.out _ h; omega))
          replace HX := hid (HX.out.trans (hch.wide2 (K := [c, g, d]) (by simp)))
          clear hcu hch
          obtain ⟨ad, rfl, q0, q1⟩ := (HOLD.out _ HX.out).pcell2 HQ.out
          go_wp2
          go_roundw
          case rel => exact ⟨k + 1, by omega, by go_num, r.1 ++ [0], r.1 ++ [0], q.1 ++ [0], HC.out, HG.out, HD.out, ⟨rfl, HBR.out.1.app (by intro b hb; simp at hb; omega), HBR.out.1.app (by intro b hb; simp at hb; omega), HBQ.out.1.app (by intro b hb; simp at hb; omega), by rw [atN_behind HRI.out hnd]; have := HAT.out.2.2.2.2; have := HKL.out; omega⟩, HT.out, HX.out⟩
          case measure => simp [intOf]; omega
    · obtain rfl : k = m + 1 := by omega
      have hki2 : ¬ ((m + 1 : Nat) : Int) ≤ m := by omega
      go_wp2_with fail
      refine (awake5_yes _).mono ?_
      rintro e wz ⟨rfl, hbz⟩
      go_wp2
      go_ret
      exact ⟨rfl, below_step HB0.out (below_step (below_step HS.out.since ((HX7.out.trans HX.out).below (fun _ h => by cases h) (Nat.le_refl _))) hbz)⟩
theorem two_any (w : World) (v : Value) (os : List Cl) (K V key : List Nat) (hv : Elems 3 cO w v os) (hos : ClsOk os) (bK : Byt K) (bV : Byt V) (bKey : Byt key) : Calls Try.prog 16 #[v, two2 K V, .string (str key)] w (Yes w) := by
  cases hf : fewB os with
  | false => exact two_many w v os K V key hv (.inl hf)
  | true =>
    cases hs : shortB K V with
    | false => exact two_many w v os K V key hv (.inr ⟨hf, hs⟩)
    | true =>
      by_cases hkl : 300 < key.length
      · exact two_key w v os K V key hv hkl hos bK bV hf hs
      · by_cases h0 : V = []
        · subst h0
          by_cases hk : key < K
          · exact two_seek1B w v os K key hv (by omega) bKey hk hos bK hf hs
          · exact two_okB w v os K key hv (by omega) bKey hk hos bK hf hs
        · by_cases h1 : V < K
          · exact two_bad w v os K V key hv (by omega) hos bK bV hf hs h0 h1
          · by_cases hk : key < K
            · exact two_seek1C w v os K V key hv (by omega) bKey hk hos bK bV hf hs h0 h1
            · by_cases hk2 : V < key
              · exact two_seek2C w v os K V key hv (by omega) bKey hk hk2 hos bK bV hf hs h0 h1
              · exact two_okC w v os K V key hv (by omega) bKey hk hk2 hos bK bV hf hs h0 h1
end Go.Proofs.Ytkckilemfkajeaa
