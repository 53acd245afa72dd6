/- CursorMoves. -/
import Derived.Test.YtkckilemfkajeaaY13
import Derived.Test.YtkckilemfkajeaaF2
namespace Go.Proofs.Ytkckilemfkajeaa
open Go.RowKit
set_option maxRecDepth 100000

theorem nextI_none {l : List Pr} (hr : Rising l) {hi at_ : List Nat} (h : nxt l hi at_ = none) : nextI l hi at_ = -1 := by
  rw [nxt_at hr] at h
  unfold nextI
  split
  · rename_i hlt
    rw [if_pos hlt] at h
    have := List.getElem?_eq_none_iff.1 h
    have := endN_le l hi
    omega
  · rfl
theorem nextI_some {l : List Pr} (hr : Rising l) {hi at_ : List Nat} {q : Pr} (h : nxt l hi at_ = some q) : nextI l hi at_ = (atN l at_ : Int) ∧ l[atN l at_]? = some q := by
  rw [nxt_at hr] at h
  unfold nextI
  split at h
  · rename_i hlt
    exact ⟨if_pos hlt, h⟩
  · cases h
theorem moves_many (w : World) (v v2 : Value) (os : List Cl) (ms : List Mv) (K V : List Nat) (hv : Elems 3 cO w v os) (_hv2 : Elems 4 cM w v2 ms) (hf : fewB os = false ∨ (fewB os = true ∧ shortB K V = false)) : Calls Try.prog 12 #[v, two2 K V, v2] w (Yes w) := by
  obtain ⟨wB, HW⟩ : ∃ W, Hid (W = w.alloc (.cells #[.string (str K), .string (str V)] 48)) := ⟨_, rfl⟩
  obtain ⟨x0, x1, b0⟩ := boxed w K V 48
  rw [← HW.out] at x0 x1 b0
  have HB0 := hid b0
  have X0 := hid x0
  have X1 := hid x1
  clear x0 x1 b0
  rcases hf with hf | ⟨hf, hs⟩
  · unfold two2
    go_enter Try.func12, Try.ntmps12
    go_wp2_with fail
    rw [← HW.out]
    refine (few_any wB _ os (hv.below HB0.out)).mono ?_
    rw [hf]
    rintro e w1 ⟨rfl, rfl⟩
    go_wp2_with fail
    refine (awake5_yes _).mono ?_
    rintro e wz ⟨rfl, hbz⟩
    go_wp2
    go_ret
    exact ⟨rfl, below_step HB0.out (below_step (Below.refl _ _) hbz)⟩
  · unfold two2
    go_enter Try.func12, Try.ntmps12
    go_wp2_with fail
    rw [← HW.out]
    refine (few_any wB _ os (hv.below HB0.out)).mono ?_
    rw [hf]
    rintro e w1 ⟨rfl, rfl⟩
    have x0 := X0.out
    have x1 := X1.out
    go_wp2_with fail
    refine (short_any wB K V).mono ?_
    rw [hs]
    rintro e w2 ⟨rfl, hb2⟩
    have HB2 := hid hb2
    clear hb2
    go_wp2_with fail
    refine (awake5_yes _).mono ?_
    rintro e wz ⟨rfl, hbz⟩
    go_wp2
    go_ret
    exact ⟨rfl, below_step HB0.out (below_step HB2.out hbz)⟩
set_option maxHeartbeats 4000000 in
theorem moves_long (w : World) (v v2 : Value) (os : List Cl) (ms : List Mv) (K V : List Nat) (hv : Elems 3 cO w v os) (hv2 : Elems 4 cM w v2 ms) (hml : 100 < ms.length) (_hos : ClsOk os) (bK : Byt K) (bV : Byt V) (hf : fewB os = true) (hs : shortB K V = true) : Calls Try.prog 12 #[v, two2 K V, v2] w (Yes w) := by
  obtain ⟨wB, HW⟩ : ∃ W, Hid (W = w.alloc (.cells #[.string (str K), .string (str V)] 48)) := ⟨_, rfl⟩
  obtain ⟨x0, x1, b0⟩ := boxed w K V 48
  rw [← HW.out] at x0 x1 b0
  have HB0 := hid b0
  have X0 := hid x0
  have X1 := hid x1
  clear x0 x1 b0
  have BV := hid bV
  have BK := hid bK
  have HE := hid str_nil
  obtain ⟨hK, hV⟩ : K.length ≤ 300 ∧ V.length ≤ 300 := by unfold shortB at hs; exact of_decide_eq_true hs
  obtain ⟨A2, cap2, rfl⟩ := hv2.slice
  have hmi : (100 : Int) < ms.length := by omega
  unfold two2
  go_enter Try.func12, Try.ntmps12
  go_wp2_with fail
  rw [← HW.out]
  refine (few_any wB _ os (hv.below HB0.out)).mono ?_
  rw [hf]
  rintro e w1 ⟨rfl, rfl⟩
  have x0 := X0.out
  have x1 := X1.out
  go_wp2_with fail
  refine (short_any wB K V).mono ?_
  rw [hs]
  rintro e w2 ⟨rfl, hb2⟩
  have HB2 := hid hb2
  clear hb2
  go_wp2_with fail
  refine (awake5_yes _).mono ?_
  rintro e wz ⟨rfl, hbz⟩
  go_wp2
  go_ret
  exact ⟨rfl, below_step HB0.out (below_step HB2.out hbz)⟩
set_option maxHeartbeats 4000000 in
theorem moves_bad (w : World) (v v2 : Value) (os : List Cl) (ms : List Mv) (K V : List Nat) (hv : Elems 3 cO w v os) (hv2 : Elems 4 cM w v2 ms) (hml : ms.length ≤ 100) (hos : ClsOk os) (bK : Byt K) (bV : Byt V) (hf : fewB os = true) (hs : shortB K V = true) (hn : V ≠ []) (hlt : V < K) : Calls Try.prog 12 #[v, two2 K V, v2] w (Yes w) := by
  obtain ⟨wB, HW⟩ : ∃ W, Hid (W = w.alloc (.cells #[.string (str K), .string (str V)] 48)) := ⟨_, rfl⟩
  obtain ⟨x0, x1, b0⟩ := boxed w K V 48
  rw [← HW.out] at x0 x1 b0
  have HB0 := hid b0
  have X0 := hid x0
  have X1 := hid x1
  clear x0 x1 b0
  obtain ⟨e1, e2⟩ := ne_nil_str hn
  have e3 : Op.bytesLess (str V).toList (str K).toList = true := by rw [less_str bV bK, decide_eq_true hlt]
  have BV := hid bV
  have BK := hid bK
  have HE := hid str_nil
  obtain ⟨hK, hV⟩ : K.length ≤ 300 ∧ V.length ≤ 300 := by unfold shortB at hs; exact of_decide_eq_true hs
  obtain ⟨A2, cap2, rfl⟩ := hv2.slice
  have hmi : ¬ (100 : Int) < ms.length := by omega
  unfold two2
  go_enter Try.func12, Try.ntmps12
  go_wp2_with fail
  rw [← HW.out]
  refine (few_any wB _ os (hv.below HB0.out)).mono ?_
  rw [hf]
  rintro e w1 ⟨rfl, rfl⟩
  have x0 := X0.out
  have x1 := X1.out
  go_wp2_with fail
  refine (short_any wB K V).mono ?_
  rw [hs]
  rintro e w2 ⟨rfl, hb2⟩
  have HB2 := hid hb2
  clear hb2
  go_wp2_with fail
  refine (made_ok w2 3 (by decide) (by decide) v os ((hv.below HB0.out).below HB2.out) hos hf).mono ?_
  rintro e w1 ⟨a, p, P, G, rfl, hst⟩
  have HS : Hid (St wB w1 P G a p (runL [] os) 3) := ⟨hst.t, hst.r, hst.n, hst.m, ((Chg.of_below (F := []) HB2.out).less (K := []) (fun k hk => by cases hk)).trans hst.c⟩
  clear hst x0 x1
  have x0 := below_keep HS.out.since _ _ X0.out
  have x1 := below_keep HS.out.since _ _ X1.out
  go_wp2_with fail
  refine (new_bad _ a K V BK.out BV.out hn hlt).mono ?_
  rintro e w3 ⟨rfl, rfl⟩
  go_wp2_with fail
  refine (awake5_yes _).mono ?_
  rintro e wz ⟨rfl, hbz⟩
  go_wp2
  go_ret
  exact ⟨rfl, below_step HB0.out (below_step HS.out.since hbz)⟩
set_option maxHeartbeats 8000000 in
theorem moves_okB (w : World) (v v2 : Value) (os : List Cl) (ms : List Mv) (K : List Nat) (hv : Elems 3 cO w v os) (hv2 : Elems 4 cM w v2 ms) (hms : MvsOk ms) (hml : ms.length ≤ 100) (hos : ClsOk os) (bK : Byt K) (hf : fewB os = true) (hs : shortB K [] = true) : Calls Try.prog 12 #[v, two2 K [], v2] w (Yes w) := by
  obtain ⟨wB, HW⟩ : ∃ W, Hid (W = w.alloc (.cells #[.string (str K), .string (str [])] 48)) := ⟨_, rfl⟩
  obtain ⟨x0, x1, b0⟩ := boxed w K [] 48
  rw [← HW.out] at x0 x1 b0
  rw [← str_nil] at x1
  have HB0 := hid b0
  have X0 := hid x0
  have X1 := hid x1
  clear x0 x1 b0
  have BK := hid bK
  have HE := hid str_nil
  obtain ⟨hK, hV⟩ : K.length ≤ 300 ∧ ([] : List Nat).length ≤ 300 := by unfold shortB at hs; exact of_decide_eq_true hs
  obtain ⟨A2, cap2, rfl⟩ := hv2.slice
  have hmi : ¬ (100 : Int) < ms.length := by omega
  unfold two2
  go_enter Try.func12, Try.ntmps12
  go_wp2_with fail
  rw [← HW.out]
  refine (few_any wB _ os (hv.below HB0.out)).mono ?_
  rw [hf]
  rintro e w1 ⟨rfl, rfl⟩
  have x0 := X0.out
  have x1 := X1.out
  go_wp2_with fail
  rw [HE.out]
  refine (short_any wB K []).mono ?_
  rw [hs]
  rintro e w2 ⟨rfl, hb2⟩
  have HB2 := hid hb2
  clear hb2
  go_wp2_with fail
  refine (made_ok w2 3 (by decide) (by decide) v os ((hv.below HB0.out).below HB2.out) hos hf).mono ?_
  rintro e w1 ⟨a, p, P, G, rfl, hst⟩
  have HS : Hid (St wB w1 P G a p (runL [] os) 3) := ⟨hst.t, hst.r, hst.n, hst.m, ((Chg.of_below (F := []) HB2.out).less (K := []) (fun k hk => by cases hk)).trans hst.c⟩
  clear hst x0 x1
  have x0 := below_keep HS.out.since _ _ X0.out
  have x1 := below_keep HS.out.since _ _ X1.out
  have HV2 := hid (hv2.below HB0.out)
  have HMS := hid hms
  obtain ⟨len, HLEN⟩ : ∃ len, Hid (len = ms.length) := ⟨_, rfl⟩
  have hl100 : len ≤ 100 := by rw [HLEN.out]; exact hml
  rw [← HLEN.out] at HV2 ⊢
  have hLL := run_few hf
  obtain ⟨L0, HLE⟩ : ∃ L, Hid (L = runL [] os) := ⟨_, rfl⟩
  have HKY : Hid (Keyed L0) := by rw [HLE.out]; exact run_keyed os
  rw [← HLE.out] at HS hLL
  have hal := HS.out.t.lt
  have hpl := HS.out.r.lt _ HS.out.r.mem
  go_wp2_with fail
  rw [HE.out]
  refine (new_ok _ a K [] BK.out (fun b hb => by cases hb) (by omega) (by decide) (.inl rfl)).mono ?_
  rintro e w3 ⟨c, rfl, hb3, hc3, hcur⟩
  have HC3 := hid hcur
  have HS3 := hid (HS.out.below_ hb3)
  have hcW : wB.heap.size ≤ c := Nat.le_trans HS.out.since.size hc3
  have HCG : Hid (c ∉ G ∧ ¬ P c) := ⟨fun h => by have := HS.out.r.lt c h; omega, fun h => by have := HS.out.t.under c h; omega⟩
  have hca : c ≠ a := by omega
  have hcp : c ≠ p := by omega
  clear x0 x1 hcur hb3 hv2 hms hml
  have x0 := below_keep HS3.out.since _ _ X0.out
  have x1 := below_keep HS3.out.since _ _ X1.out
  rw [← HE.out]
  go_wp2
  clear x0 x1
  go_loopw [11, 12, 13] (fun at_ told i wr => ∃ k : Nat, k ≤ len ∧ i = .int .i64 k ∧ ∃ (atx : List Nat) (td : Bool), at_ = .string (str atx) ∧ told = .bool td ∧ ∃ (L : List Pr) (P : Bl) (G : List Nat), Hid (Byt atx ∧ ¬ at2 td atx < K ∧ Keyed L ∧ L.length ≤ 200 + k) ∧ St wB wr P G a p L 3 ∧ CurAt wr c a K [] (at2 td atx) ∧ Hid (c ∉ G ∧ ¬ P c)) (fun _ _ i _ => len - (intOf i).toNat)
  case atStart => exact ⟨0, by omega, rfl, K, false, rfl, rfl, L0, P, G, ⟨BK.out, List.lt_irrefl _, HKY.out, by omega⟩, HS3.out, HC3.out, HCG.out⟩
  case round =>
    obtain ⟨k, hk, rfl, atx, td, rfl, rfl, L, P2, G2, HF, hst, hcu, HCG2⟩ := hrel
    have HS := hid hst
    have HC := hid hcu
    clear hst hcu
    by_cases hlt2 : k < len
    · have hlti : (k : Int) < len := by omega
      obtain ⟨mv, hmv⟩ : ∃ m, ms[k]? = some m := ⟨ms[k]'(by have := HLEN.out; omega), List.getElem?_eq_getElem _⟩
      obtain ⟨ad, rfl, m0, m1, m2, m3⟩ := (HV2.out.below HS.out.since).mv hmv
      obtain ⟨_, hok⟩ := HMS.out.ok mv (List.mem_of_getElem? hmv)
      obtain ⟨md, o⟩ := mv
      have HOK := hid hok
      have hsk := str_size o.key
      have hsv := str_size o.val
      have x0 := below_keep HS.out.since _ _ X0.out
      have x1 := below_keep HS.out.since _ _ X1.out
      clear hmv hok
      obtain ⟨wo, HWO⟩ : ∃ W, Hid (W = wr.alloc (.cells #[.int .i64 o.k, .string (str o.key), .string (str o.val)] 35)) := ⟨_, rfl⟩
      have HBO : Hid (Below wr.heap.size wr wo) := by rw [HWO.out]; exact (Below.refl _ _).alloc (Nat.le_refl _) _
      have HO : Hid (OpAt wo ⟨wr.heap.size, 0, none⟩ o) := by rw [HWO.out]; exact opAt_new wr o
      have hwo : wo.heap.size = wr.heap.size + 1 := by rw [HWO.out]; simp
      have n0 := below_keep HBO.out _ _ m0
      rw [HWO.out] at n0
      have HLK : Hid (L.length ≤ 300) := by have := HF.out.2.2.2; show _ ≤ _; omega
      by_cases hk1 : 300 < o.key.length
      · have hi1 : (300 : Int) < o.key.length := by omega
        go_wp2
        rw [← HWO.out]
        exact ⟨⟨k + 1, by omega, by go_num, atx, td, rfl, rfl, L, P2, G2, ⟨HF.out.1, HF.out.2.1, HF.out.2.2.1, by have := HF.out.2.2.2; omega⟩, HS.out.below_ HBO.out, HC.out.below HBO.out, HCG2.out⟩, by simp [intOf]; omega⟩
      · have hi1 : ¬ (300 : Int) < o.key.length := by omega
        by_cases hv1 : 300 < o.val.length
        · have hi2 : (300 : Int) < o.val.length := by omega
          go_wp2
          rw [← HWO.out]
          exact ⟨⟨k + 1, by omega, by go_num, atx, td, rfl, rfl, L, P2, G2, ⟨HF.out.1, HF.out.2.1, HF.out.2.2.1, by have := HF.out.2.2.2; omega⟩, HS.out.below_ HBO.out, HC.out.below HBO.out, HCG2.out⟩, by simp [intOf]; omega⟩
        · have hi2 : ¬ (300 : Int) < o.val.length := by omega
          have HSO := hid (HS.out.below_ HBO.out)
          have HCO := hid (HC.out.below HBO.out)
          have hcl : c < wr.heap.size := HC.out.lt
          have HB2 : Hid (Byt (at2 td atx)) := by
            show Byt _
            unfold at2
            split
            · exact HF.out.1.app (by intro b hb; simp at hb; omega)
            · exact HF.out.1
          by_cases h0 : md = 0
          · subst h0
            cases hN : nxt L [] (at2 td atx) with
            | none =>
              have HNI : Hid (nextI L [] (at2 td atx) = -1) := nextI_none HS.out.t.rise hN
              go_wp2_with fail
              rw [← HWO.out]
              refine (next_none HCO.out HSO.out.t (by have := HLK.out; omega) (fun b hb => by cases hb) HB2.out hN).mono ?_
              rintro e w4 ⟨rfl, hb4⟩
              have HS4 := hid (HSO.out.below_ hb4)
              have HC4 := hid (HCO.out.below hb4)
              clear hb4 x0 x1 m0 m1 m2 m3 n0
              have x0 := below_keep HS4.out.since _ _ X0.out
              have x1 := below_keep HS4.out.since _ _ X1.out
              go_wp2_with fail
              rw [HE.out]
              refine (refnext_any _ G2 p L K [] atx td HS4.out.r HS4.out.t.byt HS4.out.t.rise (by have := HLK.out; omega) BK.out (fun b hb => by cases hb) HF.out.1 HF.out.2.1).mono ?_
              rw [HNI.out]
              rintro e w5 ⟨rfl, hb5⟩
              have HS5 := hid (HS4.out.below_ hb5)
              have HC5 := hid (HC4.out.below hb5)
              clear hb5 x0 x1
              rw [← HE.out]
              go_wp2
              go_roundw
              case rel => exact ⟨k + 1, by omega, by go_num, atx, td, rfl, rfl, L, P2, G2, ⟨HF.out.1, HF.out.2.1, HF.out.2.2.1, by have := HF.out.2.2.2; omega⟩, HS5.out, HC5.out, HCG2.out⟩
              case measure => simp [intOf]; omega
            | some q =>
              obtain ⟨hni, hq⟩ := nextI_some HS.out.t.rise hN
              obtain ⟨j, HJ⟩ : ∃ j, Hid (j = atN L (at2 td atx)) := ⟨_, rfl⟩
              rw [← HJ.out] at hni hq
              have HNI := hid hni
              have HQ := hid hq
              have HBQ := hid (HS.out.t.byt q (List.mem_of_getElem? hq))
              have hjl : j < L.length := (List.getElem?_eq_some_iff.1 hq).1
              have hj0 : ¬ (j : Int) < 0 := by omega
              have hj1 : (0 : Int) ≤ j := by omega
              have HQK : Hid (¬ at2 true q.1 < K) := fun h => by
                have h1 : ¬ q.1 < at2 td atx := fun h2 => by have := (atN_iff HS.out.t.rise HQ.out).1 h2; have := HJ.out; omega
                have h2 : q.1 < K := List.lt_trans (lt_next q.1) h
                by_cases e : q.1 = at2 td atx
                · exact HF.out.2.1 (e ▸ h2)
                · exact HF.out.2.1 (List.lt_trans (lt_of_not h1 e) h2)
              clear hni hq
              go_wp2_with fail
              rw [← HWO.out]
              refine (next_some HCO.out HSO.out.t (by have := HLK.out; omega) HF.out.2.2.1 (fun b hb => by cases hb) HB2.out hN).mono ?_
              rintro e w4 ⟨rfl, hcu, hch⟩
              have HS4 := hid (HSO.out.aside hch hcW hca HCG2.out.1 HCG2.out.2)
              have HC4 := hid hcu
              clear hcu hch x0 x1 m0 m1 m2 m3 n0
              have x0 := below_keep HS4.out.since _ _ X0.out
              have x1 := below_keep HS4.out.since _ _ X1.out
              go_wp2_with fail
              rw [HE.out]
              refine (refnext_any _ G2 p L K [] atx td HS4.out.r HS4.out.t.byt HS4.out.t.rise (by have := HLK.out; omega) BK.out (fun b hb => by cases hb) HF.out.1 HF.out.2.1).mono ?_
              rw [HNI.out]
              rintro e w5 ⟨rfl, hb5⟩
              have HS5 := hid (HS4.out.below_ hb5)
              have HC5 := hid (HC4.out.below hb5)
              clear hb5 x0 x1
              rw [← HE.out]
              obtain ⟨u5, hone5, hel5, _⟩ := HS5.out.r
              obtain ⟨Ap, cp, rfl⟩ := hel5.slice
              obtain ⟨adp, rfl, p0, p1⟩ := hel5.pcell2 HQ.out
              have pc := hone5.cell
              obtain ⟨ln, HLN⟩ : ∃ n, Hid (n = L.length) := ⟨_, rfl⟩
              rw [← HLN.out] at pc hjl
              have hji : (j : Int) < ln := by omega
              clear hone5 hel5
              go_wp2
              go_roundw
              case rel => exact ⟨k + 1, by omega, by go_num, q.1, true, rfl, rfl, L, P2, G2, ⟨HBQ.out.1, HQK.out, HF.out.2.2.1, by have := HF.out.2.2.2; omega⟩, HS5.out, HC5.out, HCG2.out⟩
              case measure => simp [intOf]; omega
          · by_cases h1 : md = 1
            · subst h1
              by_cases hs1 : o.key < K
              · have e4 : Op.bytesLess (str o.key).toList (str K).toList = true := by rw [less_str HOK.out.key BK.out, decide_eq_true hs1]
                go_wp2_with fail
                rw [← HWO.out]
                refine (seek_bad HCO.out o.key HOK.out.key BK.out (fun b hb => by cases hb) (.inl hs1)).mono ?_
                rintro e w4 ⟨rfl, rfl⟩
                obtain ⟨_, o1, _⟩ := HO.out
                clear x0 x1 m0 m1 m2 m3 n0
                have x0 := below_keep HSO.out.since _ _ X0.out
                have x1 := below_keep HSO.out.since _ _ X1.out
                go_wp2
                go_roundw
                case rel => exact ⟨k + 1, by omega, by go_num, atx, td, rfl, rfl, L, P2, G2, ⟨HF.out.1, HF.out.2.1, HF.out.2.2.1, by have := HF.out.2.2.2; omega⟩, HSO.out, HCO.out, HCG2.out⟩
                case measure => simp [intOf]; omega
              · have e4 : Op.bytesLess (str o.key).toList (str K).toList = false := by rw [less_str HOK.out.key BK.out, decide_eq_false hs1]
                go_wp2_with fail
                rw [← HWO.out]
                refine (seek_ok HCO.out o.key HOK.out.key BK.out (fun b hb => by cases hb) (by omega) hs1 (.inl rfl)).mono ?_
                rintro e w4 ⟨rfl, hcu, hch⟩
                have HS4 := hid (HSO.out.aside hch hcW hca HCG2.out.1 HCG2.out.2)
                have HC4 := hid hcu
                have HS1 := hid hs1
                obtain ⟨_, o1, _⟩ := HO.out.chg hch (by simp; omega)
                clear hcu hch x0 x1 m0 m1 m2 m3 n0 hs1
                have x0 := below_keep HS4.out.since _ _ X0.out
                have x1 := below_keep HS4.out.since _ _ X1.out
                go_wp2
                go_roundw
                case rel => exact ⟨k + 1, by omega, by go_num, o.key, false, rfl, rfl, L, P2, G2, ⟨HOK.out.key, HS1.out, HF.out.2.2.1, by have := HF.out.2.2.2; omega⟩, HS4.out, HC4.out, HCG2.out⟩
                case measure => simp [intOf]; omega
            · go_wp2_with fail
              rw [← HWO.out]
              refine (doesX_any HSO.out o HOK.out (by omega) (by omega) (by have := HLK.out; omega)).mono ?_
              rintro e w4 ⟨rfl, P4, G4, hst, hch, hP, hG⟩
              have HS4 := hid hst
              have HC4 := hid (HCO.out.chg hch (by simp; omega))
              have HCG4 : Hid (c ∉ G4 ∧ ¬ P4 c) := ⟨fun h => (hG c h).elim HCG2.out.1 fun h => by omega, fun h => (hP c h).elim HCG2.out.2 fun h => by omega⟩
              clear hst hch hP hG
              go_wp2
              go_roundw
              case rel => exact ⟨k + 1, by omega, by go_num, atx, td, rfl, rfl, stepL L o, P4, G4, ⟨HF.out.1, HF.out.2.1, HF.out.2.2.1.step o, by have := HF.out.2.2.2; have := stepL_len L o; omega⟩, HS4.out, HC4.out, HCG4.out⟩
              case measure => simp [intOf]; omega
    · obtain rfl : k = len := by omega
      go_wp2_with fail
      refine (awake5_yes _).mono ?_
      rintro e wz ⟨rfl, hbz⟩
      go_wp2
      go_ret
      exact ⟨rfl, below_step HB0.out (below_step HS.out.since hbz)⟩
set_option maxHeartbeats 8000000 in
theorem moves_okC (w : World) (v v2 : Value) (os : List Cl) (ms : List Mv) (K V : List Nat) (hv : Elems 3 cO w v os) (hv2 : Elems 4 cM w v2 ms) (hms : MvsOk ms) (hml : ms.length ≤ 100) (hos : ClsOk os) (bK : Byt K) (bV : Byt V) (hf : fewB os = true) (hs : shortB K V = true) (hn : V ≠ []) (hlt : ¬ V < K) : Calls Try.prog 12 #[v, two2 K V, v2] w (Yes w) := by
  obtain ⟨wB, HW⟩ : ∃ W, Hid (W = w.alloc (.cells #[.string (str K), .string (str V)] 48)) := ⟨_, rfl⟩
  obtain ⟨x0, x1, b0⟩ := boxed w K V 48
  rw [← HW.out] at x0 x1 b0
  have HB0 := hid b0
  have X0 := hid x0
  have X1 := hid x1
  clear x0 x1 b0
  obtain ⟨e1, e2⟩ := ne_nil_str hn
  have e3 : Op.bytesLess (str V).toList (str K).toList = false := by rw [less_str bV bK, decide_eq_false hlt]
  have BV := hid bV
  have BK := hid bK
  have HE := hid str_nil
  obtain ⟨hK, hV⟩ : K.length ≤ 300 ∧ V.length ≤ 300 := by unfold shortB at hs; exact of_decide_eq_true hs
  obtain ⟨A2, cap2, rfl⟩ := hv2.slice
  have hmi : ¬ (100 : Int) < ms.length := by omega
  unfold two2
  go_enter Try.func12, Try.ntmps12
  go_wp2_with fail
  rw [← HW.out]
  refine (few_any wB _ os (hv.below HB0.out)).mono ?_
  rw [hf]
  rintro e w1 ⟨rfl, rfl⟩
  have x0 := X0.out
  have x1 := X1.out
  go_wp2_with fail
  refine (short_any wB K V).mono ?_
  rw [hs]
  rintro e w2 ⟨rfl, hb2⟩
  have HB2 := hid hb2
  clear hb2
  go_wp2_with fail
  refine (made_ok w2 3 (by decide) (by decide) v os ((hv.below HB0.out).below HB2.out) hos hf).mono ?_
  rintro e w1 ⟨a, p, P, G, rfl, hst⟩
  have HS : Hid (St wB w1 P G a p (runL [] os) 3) := ⟨hst.t, hst.r, hst.n, hst.m, ((Chg.of_below (F := []) HB2.out).less (K := []) (fun k hk => by cases hk)).trans hst.c⟩
  clear hst x0 x1
  have x0 := below_keep HS.out.since _ _ X0.out
  have x1 := below_keep HS.out.since _ _ X1.out
  have HV2 := hid (hv2.below HB0.out)
  have HMS := hid hms
  obtain ⟨len, HLEN⟩ : ∃ len, Hid (len = ms.length) := ⟨_, rfl⟩
  have hl100 : len ≤ 100 := by rw [HLEN.out]; exact hml
  rw [← HLEN.out] at HV2 ⊢
  have hLL := run_few hf
  obtain ⟨L0, HLE⟩ : ∃ L, Hid (L = runL [] os) := ⟨_, rfl⟩
  have HKY : Hid (Keyed L0) := by rw [HLE.out]; exact run_keyed os
  rw [← HLE.out] at HS hLL
  have hal := HS.out.t.lt
  have hpl := HS.out.r.lt _ HS.out.r.mem
  go_wp2_with fail
  refine (new_ok _ a K V BK.out BV.out (by omega) (by omega) (.inr hlt)).mono ?_
  rintro e w3 ⟨c, rfl, hb3, hc3, hcur⟩
  have HC3 := hid hcur
  have HS3 := hid (HS.out.below_ hb3)
  have hcW : wB.heap.size ≤ c := Nat.le_trans HS.out.since.size hc3
  have HCG : Hid (c ∉ G ∧ ¬ P c) := ⟨fun h => by have := HS.out.r.lt c h; omega, fun h => by have := HS.out.t.under c h; omega⟩
  have hca : c ≠ a := by omega
  have hcp : c ≠ p := by omega
  clear x0 x1 hcur hb3 hv2 hms hml
  have x0 := below_keep HS3.out.since _ _ X0.out
  have x1 := below_keep HS3.out.since _ _ X1.out
  go_wp2
  clear x0 x1
  go_loopw [11, 12, 13] (fun at_ told i wr => ∃ k : Nat, k ≤ len ∧ i = .int .i64 k ∧ ∃ (atx : List Nat) (td : Bool), at_ = .string (str atx) ∧ told = .bool td ∧ ∃ (L : List Pr) (P : Bl) (G : List Nat), Hid (Byt atx ∧ ¬ at2 td atx < K ∧ Keyed L ∧ L.length ≤ 200 + k) ∧ St wB wr P G a p L 3 ∧ CurAt wr c a K V (at2 td atx) ∧ Hid (c ∉ G ∧ ¬ P c)) (fun _ _ i _ => len - (intOf i).toNat)
  case atStart => exact ⟨0, by omega, rfl, K, false, rfl, rfl, L0, P, G, ⟨BK.out, List.lt_irrefl _, HKY.out, by omega⟩, HS3.out, HC3.out, HCG.out⟩
  case round =>
    obtain ⟨k, hk, rfl, atx, td, rfl, rfl, L, P2, G2, HF, hst, hcu, HCG2⟩ := hrel
    have HS := hid hst
    have HC := hid hcu
    clear hst hcu
    by_cases hlt2 : k < len
    · have hlti : (k : Int) < len := by omega
      obtain ⟨mv, hmv⟩ : ∃ m, ms[k]? = some m := ⟨ms[k]'(by have := HLEN.out; omega), List.getElem?_eq_getElem _⟩
      obtain ⟨ad, rfl, m0, m1, m2, m3⟩ := (HV2.out.below HS.out.since).mv hmv
      obtain ⟨_, hok⟩ := HMS.out.ok mv (List.mem_of_getElem? hmv)
      obtain ⟨md, o⟩ := mv
      have HOK := hid hok
      have hsk := str_size o.key
      have hsv := str_size o.val
      have x0 := below_keep HS.out.since _ _ X0.out
      have x1 := below_keep HS.out.since _ _ X1.out
      clear hmv hok
      obtain ⟨wo, HWO⟩ : ∃ W, Hid (W = wr.alloc (.cells #[.int .i64 o.k, .string (str o.key), .string (str o.val)] 35)) := ⟨_, rfl⟩
      have HBO : Hid (Below wr.heap.size wr wo) := by rw [HWO.out]; exact (Below.refl _ _).alloc (Nat.le_refl _) _
      have HO : Hid (OpAt wo ⟨wr.heap.size, 0, none⟩ o) := by rw [HWO.out]; exact opAt_new wr o
      have hwo : wo.heap.size = wr.heap.size + 1 := by rw [HWO.out]; simp
      have n0 := below_keep HBO.out _ _ m0
      rw [HWO.out] at n0
      have HLK : Hid (L.length ≤ 300) := by have := HF.out.2.2.2; show _ ≤ _; omega
      by_cases hk1 : 300 < o.key.length
      · have hi1 : (300 : Int) < o.key.length := by omega
        go_wp2
        rw [← HWO.out]
        exact ⟨⟨k + 1, by omega, by go_num, atx, td, rfl, rfl, L, P2, G2, ⟨HF.out.1, HF.out.2.1, HF.out.2.2.1, by have := HF.out.2.2.2; omega⟩, HS.out.below_ HBO.out, HC.out.below HBO.out, HCG2.out⟩, by simp [intOf]; omega⟩
      · have hi1 : ¬ (300 : Int) < o.key.length := by omega
        by_cases hv1 : 300 < o.val.length
        · have hi2 : (300 : Int) < o.val.length := by omega
          go_wp2
          rw [← HWO.out]
          exact ⟨⟨k + 1, by omega, by go_num, atx, td, rfl, rfl, L, P2, G2, ⟨HF.out.1, HF.out.2.1, HF.out.2.2.1, by have := HF.out.2.2.2; omega⟩, HS.out.below_ HBO.out, HC.out.below HBO.out, HCG2.out⟩, by simp [intOf]; omega⟩
        · have hi2 : ¬ (300 : Int) < o.val.length := by omega
          have HSO := hid (HS.out.below_ HBO.out)
          have HCO := hid (HC.out.below HBO.out)
          have hcl : c < wr.heap.size := HC.out.lt
          have HB2 : Hid (Byt (at2 td atx)) := by
            show Byt _
            unfold at2
            split
            · exact HF.out.1.app (by intro b hb; simp at hb; omega)
            · exact HF.out.1
          by_cases h0 : md = 0
          · subst h0
            cases hN : nxt L V (at2 td atx) with
            | none =>
              have HNI : Hid (nextI L V (at2 td atx) = -1) := nextI_none HS.out.t.rise hN
              go_wp2_with fail
              rw [← HWO.out]
              refine (next_none HCO.out HSO.out.t (by have := HLK.out; omega) BV.out HB2.out hN).mono ?_
              rintro e w4 ⟨rfl, hb4⟩
              have HS4 := hid (HSO.out.below_ hb4)
              have HC4 := hid (HCO.out.below hb4)
              clear hb4 x0 x1 m0 m1 m2 m3 n0
              have x0 := below_keep HS4.out.since _ _ X0.out
              have x1 := below_keep HS4.out.since _ _ X1.out
              go_wp2_with fail
              refine (refnext_any _ G2 p L K V atx td HS4.out.r HS4.out.t.byt HS4.out.t.rise (by have := HLK.out; omega) BK.out BV.out HF.out.1 HF.out.2.1).mono ?_
              rw [HNI.out]
              rintro e w5 ⟨rfl, hb5⟩
              have HS5 := hid (HS4.out.below_ hb5)
              have HC5 := hid (HC4.out.below hb5)
              clear hb5 x0 x1
              rw [← HE.out]
              go_wp2
              go_roundw
              case rel => exact ⟨k + 1, by omega, by go_num, atx, td, rfl, rfl, L, P2, G2, ⟨HF.out.1, HF.out.2.1, HF.out.2.2.1, by have := HF.out.2.2.2; omega⟩, HS5.out, HC5.out, HCG2.out⟩
              case measure => simp [intOf]; omega
            | some q =>
              obtain ⟨hni, hq⟩ := nextI_some HS.out.t.rise hN
              obtain ⟨j, HJ⟩ : ∃ j, Hid (j = atN L (at2 td atx)) := ⟨_, rfl⟩
              rw [← HJ.out] at hni hq
              have HNI := hid hni
              have HQ := hid hq
              have HBQ := hid (HS.out.t.byt q (List.mem_of_getElem? hq))
              have hjl : j < L.length := (List.getElem?_eq_some_iff.1 hq).1
              have hj0 : ¬ (j : Int) < 0 := by omega
              have hj1 : (0 : Int) ≤ j := by omega
              have HQK : Hid (¬ at2 true q.1 < K) := fun h => by
                have h1 : ¬ q.1 < at2 td atx := fun h2 => by have := (atN_iff HS.out.t.rise HQ.out).1 h2; have := HJ.out; omega
                have h2 : q.1 < K := List.lt_trans (lt_next q.1) h
                by_cases e : q.1 = at2 td atx
                · exact HF.out.2.1 (e ▸ h2)
                · exact HF.out.2.1 (List.lt_trans (lt_of_not h1 e) h2)
              clear hni hq
              go_wp2_with fail
              rw [← HWO.out]
              refine (next_some HCO.out HSO.out.t (by have := HLK.out; omega) HF.out.2.2.1 BV.out HB2.out hN).mono ?_
              rintro e w4 ⟨rfl, hcu, hch⟩
              have HS4 := hid (HSO.out.aside hch hcW hca HCG2.out.1 HCG2.out.2)
              have HC4 := hid hcu
              clear hcu hch x0 x1 m0 m1 m2 m3 n0
              have x0 := below_keep HS4.out.since _ _ X0.out
              have x1 := below_keep HS4.out.since _ _ X1.out
              go_wp2_with fail
              refine (refnext_any _ G2 p L K V atx td HS4.out.r HS4.out.t.byt HS4.out.t.rise (by have := HLK.out; omega) BK.out BV.out HF.out.1 HF.out.2.1).mono ?_
              rw [HNI.out]
              rintro e w5 ⟨rfl, hb5⟩
              have HS5 := hid (HS4.out.below_ hb5)
              have HC5 := hid (HC4.out.below hb5)
              clear hb5 x0 x1
              obtain ⟨u5, hone5, hel5, _⟩ := HS5.out.r
              obtain ⟨Ap, cp, rfl⟩ := hel5.slice
              obtain ⟨adp, rfl, p0, p1⟩ := hel5.pcell2 HQ.out
              have pc := hone5.cell
              obtain ⟨ln, HLN⟩ : ∃ n, Hid (n = L.length) := ⟨_, rfl⟩
              rw [← HLN.out] at pc hjl
              have hji : (j : Int) < ln := by omega
              clear hone5 hel5
              go_wp2
              go_roundw
              case rel => exact ⟨k + 1, by omega, by go_num, q.1, true, rfl, rfl, L, P2, G2, ⟨HBQ.out.1, HQK.out, HF.out.2.2.1, by have := HF.out.2.2.2; omega⟩, HS5.out, HC5.out, HCG2.out⟩
              case measure => simp [intOf]; omega
          · by_cases h1 : md = 1
            · subst h1
              by_cases hs1 : o.key < K
              · have e4 : Op.bytesLess (str o.key).toList (str K).toList = true := by rw [less_str HOK.out.key BK.out, decide_eq_true hs1]
                go_wp2_with fail
                rw [← HWO.out]
                refine (seek_bad HCO.out o.key HOK.out.key BK.out BV.out (.inl hs1)).mono ?_
                rintro e w4 ⟨rfl, rfl⟩
                obtain ⟨_, o1, _⟩ := HO.out
                clear x0 x1 m0 m1 m2 m3 n0
                have x0 := below_keep HSO.out.since _ _ X0.out
                have x1 := below_keep HSO.out.since _ _ X1.out
                go_wp2
                go_roundw
                case rel => exact ⟨k + 1, by omega, by go_num, atx, td, rfl, rfl, L, P2, G2, ⟨HF.out.1, HF.out.2.1, HF.out.2.2.1, by have := HF.out.2.2.2; omega⟩, HSO.out, HCO.out, HCG2.out⟩
                case measure => simp [intOf]; omega
              · have e4 : Op.bytesLess (str o.key).toList (str K).toList = false := by rw [less_str HOK.out.key BK.out, decide_eq_false hs1]
                by_cases hs2 : V < o.key
                · have e5 : Op.bytesLess (str o.key).toList (str V).toList = false := by rw [less_str HOK.out.key BV.out, decide_eq_false (fun h => List.lt_irrefl _ (List.lt_trans hs2 h))]
                  have e6 : ¬ (str o.key).toList = (str V).toList := fun e => by rw [str_toList, str_toList] at e; rw [ofNat_inj HOK.out.key BV.out e] at hs2; exact List.lt_irrefl _ hs2
                  have e7 : ((str o.key).toList == (str V).toList) = false := by rw [beq_eq_false_iff_ne]; exact e6
                  go_wp2_with fail
                  rw [← HWO.out]
                  refine (seek_bad HCO.out o.key HOK.out.key BK.out BV.out (.inr ⟨hs1, hn, hs2⟩)).mono ?_
                  rintro e w4 ⟨rfl, rfl⟩
                  obtain ⟨_, o1, _⟩ := HO.out
                  clear x0 x1 m0 m1 m2 m3 n0
                  have x0 := below_keep HSO.out.since _ _ X0.out
                  have x1 := below_keep HSO.out.since _ _ X1.out
                  go_wp2
                  go_roundw
                  case rel => exact ⟨k + 1, by omega, by go_num, atx, td, rfl, rfl, L, P2, G2, ⟨HF.out.1, HF.out.2.1, HF.out.2.2.1, by have := HF.out.2.2.2; omega⟩, HSO.out, HCO.out, HCG2.out⟩
                  case measure => simp [intOf]; omega
                · have e6 : (!Op.bytesLess (str o.key).toList (str V).toList && !(str o.key).toList == (str V).toList) = false := by
                    rw [less_str HOK.out.key BV.out]
                    by_cases h3 : o.key < V
                    · rw [decide_eq_true h3]; rfl
                    · have e : o.key = V := Decidable.byContradiction fun ne => hs2 (lt_of_not h3 ne)
                      rw [e]
                      simp
                  go_wp2_with fail
                  rw [← HWO.out]
                  refine (seek_ok HCO.out o.key HOK.out.key BK.out BV.out (by omega) hs1 (.inr hs2)).mono ?_
                  rintro e w4 ⟨rfl, hcu, hch⟩
                  have HS4 := hid (HSO.out.aside hch hcW hca HCG2.out.1 HCG2.out.2)
                  have HC4 := hid hcu
                  have HS1 := hid hs1
                  obtain ⟨_, o1, _⟩ := HO.out.chg hch (by simp; omega)
                  clear hcu hch x0 x1 m0 m1 m2 m3 n0 hs1
                  have x0 := below_keep HS4.out.since _ _ X0.out
                  have x1 := below_keep HS4.out.since _ _ X1.out
                  go_wp2
                  go_roundw
                  case rel => exact ⟨k + 1, by omega, by go_num, o.key, false, rfl, rfl, L, P2, G2, ⟨HOK.out.key, HS1.out, HF.out.2.2.1, by have := HF.out.2.2.2; omega⟩, HS4.out, HC4.out, HCG2.out⟩
                  case measure => simp [intOf]; omega
            · go_wp2_with fail
              rw [← HWO.out]
              refine (doesX_any HSO.out o HOK.out (by omega) (by omega) (by have := HLK.out; omega)).mono ?_
              rintro e w4 ⟨rfl, P4, G4, hst, hch, hP, hG⟩
              have HS4 := hid hst
              have HC4 := hid (HCO.out.chg hch (by simp; omega))
              have HCG4 : Hid (c ∉ G4 ∧ ¬ P4 c) := ⟨fun h => (hG c h).elim HCG2.out.1 fun h => by omega, fun h => (hP c h).elim HCG2.out.2 fun h => by omega⟩
              clear hst hch hP hG
              go_wp2
              go_roundw
              case rel => exact ⟨k + 1, by omega, by go_num, atx, td, rfl, rfl, stepL L o, P4, G4, ⟨HF.out.1, HF.out.2.1, HF.out.2.2.1.step o, by have := HF.out.2.2.2; have := stepL_len L o; omega⟩, HS4.out, HC4.out, HCG4.out⟩
              case measure => simp [intOf]; omega
    · obtain rfl : k = len := by omega
      go_wp2_with fail
      refine (awake5_yes _).mono ?_
      rintro e wz ⟨rfl, hbz⟩
      go_wp2
      go_ret
      exact ⟨rfl, below_step HB0.out (below_step HS.out.since hbz)⟩
theorem moves_any (w : World) (v : Value) (os : List Cl) (K V : List Nat) (v2 : Value) (ms : List Mv) (hv : Elems 3 cO w v os) (hos : ClsOk os) (bK : Byt K) (bV : Byt V) (hv2 : Elems 4 cM w v2 ms) (hms : MvsOk ms) : Calls Try.prog 12 #[v, two2 K V, v2] w (Yes w) := by
  cases hf : fewB os with
  | false => exact moves_many w v v2 os ms K V hv hv2 (.inl hf)
  | true =>
    cases hs : shortB K V with
    | false => exact moves_many w v v2 os ms K V hv hv2 (.inr ⟨hf, hs⟩)
    | true =>
      by_cases hml : 100 < ms.length
      · exact moves_long w v v2 os ms K V hv hv2 hml hos bK bV hf hs
      · by_cases h0 : V = []
        · subst h0
          exact moves_okB w v v2 os ms K hv hv2 hms (by omega) hos bK hf hs
        · by_cases h1 : V < K
          · exact moves_bad w v v2 os ms K V hv hv2 (by omega) hos bK bV hf hs h0 h1
          · exact moves_okC w v v2 os ms K V hv hv2 hms (by omega) hos bK bV hf hs h0 h1
end Go.Proofs.Ytkckilemfkajeaa
