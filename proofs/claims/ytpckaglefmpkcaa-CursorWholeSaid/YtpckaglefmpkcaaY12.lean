/- CursorWhole. -/
import Derived.Test.YtpckaglefmpkcaaY13
namespace Go.Proofs.Ytpckaglefmpkcaa
open Go.RowKit Go.Shelf
set_option maxRecDepth 100000
attribute [local go_sem] Oper.semAt_some

theorem whole_many (w : World) (v : Value) (os : List Cl) (K V mid : List Nat) (hv : Elems 3 cO w v os) (hf : fewB os = false ∨ (fewB os = true ∧ shortB K V = false)) : Calls Try.prog 13 #[v, two2 K V, .string (str mid)] w (Yes w) := by
  obtain ⟨wB, HW⟩ : ∃ W, Hid (W = w.alloc (.cells #[.string (str K), .string (str V)] 48)) := ⟨_, rfl⟩
  obtain ⟨x0, x1, b0⟩ := boxed w K V 48
  rw [← HW.out] at x0 x1 b0
  have HB0 := hid b0
  have X0 := hid x0
  have X1 := hid x1
  clear x0 x1 b0
  rcases hf with hf | ⟨hf, hs⟩
  · unfold two2
    go_enter Try.func13, Try.ntmps13
    go_wp2_with fail
    rw [← HW.out]
    refine (few_any wB _ os (hv.below HB0.out)).mono ?_
    rw [hf]
    rintro e w1 ⟨rfl, rfl⟩
    go_wp2_with fail
    refine (awake5_yes _).mono ?_
    rintro e wz ⟨rfl, hbz⟩
    go_wp2
    go_ret
    exact ⟨rfl, below_step HB0.out (below_step (Below.refl _ _) hbz)⟩
  · unfold two2
    go_enter Try.func13, Try.ntmps13
    go_wp2_with fail
    rw [← HW.out]
    refine (few_any wB _ os (hv.below HB0.out)).mono ?_
    rw [hf]
    rintro e w1 ⟨rfl, rfl⟩
    have x0 := X0.out
    have x1 := X1.out
    go_wp2_with fail
    refine (short_any wB K V).mono ?_
    rw [hs]
    rintro e w2 ⟨rfl, hb2⟩
    have HB2 := hid hb2
    clear hb2
    go_wp2_with fail
    refine (awake5_yes _).mono ?_
    rintro e wz ⟨rfl, hbz⟩
    go_wp2
    go_ret
    exact ⟨rfl, below_step HB0.out (below_step HB2.out hbz)⟩
theorem seg_mem {L : List Pr} {hi : List Nat} {j most : Nat} {q : Pr} (h : q ∈ seg L hi j most) : q ∈ L := by
  unfold seg at h
  exact List.mem_of_mem_take (List.mem_of_mem_drop (List.mem_of_mem_take h))
theorem seg_rise {L : List Pr} (hr : Rising L) (hi : List Nat) (j most : Nat) : Rising (seg L hi j most) :=
  ((hr.sublist (List.take_sublist _ _)).sublist (List.drop_sublist _ _)).sublist (List.take_sublist _ _)
theorem rise_step {S : List Pr} (hr : Rising S) {k : Nat} {p q : Pr} (hp : S[k]? = some p) (hq : S[k + 1]? = some q) : p.1 < q.1 := by
  obtain ⟨h1, rfl⟩ := List.getElem?_eq_some_iff.1 hp
  obtain ⟨h2, rfl⟩ := List.getElem?_eq_some_iff.1 hq
  exact List.pairwise_iff_getElem.1 hr _ _ h1 h2 (by omega)
theorem seg_in {L : List Pr} (hr : Rising L) {lo hi : List Nat} (h0 : hi = [] ∨ ¬ hi < lo) {most k : Nat} {q : Pr} (hq : (seg L hi (atN L lo) most)[k]? = some q) : ¬ q.1 < lo ∧ (hi = [] ∨ q.1 < hi) := by
  rw [← filter_scan hr lo hi h0] at hq
  have h1 := List.mem_of_mem_take (List.mem_of_getElem? hq)
  have h2 := (List.mem_filter.1 h1).2
  unfold inQ inB at h2
  exact of_decide_eq_true h2
theorem less_no {xs ys : List Nat} (bx : Byt xs) (by_ : Byt ys) (h : ¬ xs < ys) : Op.bytesLess (str xs).toList (str ys).toList = false := by rw [less_str bx by_, decide_eq_false h]
theorem less_yes {xs ys : List Nat} (bx : Byt xs) (by_ : Byt ys) (h : xs < ys) : Op.bytesLess (str xs).toList (str ys).toList = true := by rw [less_str bx by_, decide_eq_true h]
theorem ne_str_ {xs ys : List Nat} (bx : Byt xs) (by_ : Byt ys) (h : xs ≠ ys) : ¬ (str xs).toList = (str ys).toList ∧ ((str xs).toList == (str ys).toList) = false := by
  have e6 : ¬ (str xs).toList = (str ys).toList := fun e => by rw [str_toList, str_toList] at e; exact h (ofNat_inj bx by_ e)
  exact ⟨e6, by rw [beq_eq_false_iff_ne]; exact e6⟩
theorem seg_join {L : List Pr} (hr : Rising L) (hl : L.length ≤ 200) {lo mid hi : List Nat} (h0 : mid ≠ []) (h1 : ¬ mid < lo) (h2 : hi = [] ∨ ¬ hi < mid) : seg L hi (atN L lo) 1000 = seg L mid (atN L lo) 1000 ++ seg L hi (atN L mid) 1000 := by
  have ha := atN_mono hr h1
  have hb : atN L mid ≤ endN L hi := by
    unfold endN
    split
    · exact atN_le _ _
    · rename_i h
      exact atN_mono hr (h2.resolve_left h)
  have he := endN_le L hi
  have hm : endN L mid = atN L mid := by unfold endN; rw [if_neg h0]
  unfold seg
  have t1 : ∀ l : List Pr, l.length ≤ 200 → l.take 1000 = l := fun l h => List.take_of_length_le (by omega)
  rw [hm, t1 ((L.take (endN L hi)).drop (atN L lo)) (by simp; omega), t1 ((L.take (atN L mid)).drop (atN L lo)) (by simp; omega), t1 ((L.take (endN L hi)).drop (atN L mid)) (by simp; omega)]
  have e : L.take (endN L hi) = L.take (atN L mid) ++ (L.take (endN L hi)).drop (atN L mid) := by
    have h := List.take_append_drop (atN L mid) (L.take (endN L hi))
    rw [List.take_take, Nat.min_eq_left hb] at h
    exact h.symm
  have h2 := List.drop_append_of_le_length (l₁ := L.take (atN L mid)) (l₂ := (L.take (endN L hi)).drop (atN L mid)) (i := atN L lo) (by simp; omega)
  rw [← e] at h2
  exact h2
theorem le_both {xs ys : List Nat} (h1 : ¬ ys < xs) (h2 : ¬ xs < ys) : xs = ys := List.le_antisymm h1 h2
theorem lt_ne {xs ys : List Nat} (h : xs < ys) : xs ≠ ys := fun e => by rw [e] at h; exact List.lt_irrefl _ h
theorem lt_not {xs ys : List Nat} (h : xs < ys) : ¬ ys < xs := fun e => List.lt_irrefl _ (List.lt_trans h e)
set_option maxHeartbeats 4000000 in
theorem whole_bad (w : World) (v : Value) (os : List Cl) (K V : List Nat) (mid : List Nat) (hv : Elems 3 cO w v os) (hos : ClsOk os) (bK : Byt K) (bV : Byt V) (hf : fewB os = true) (hs : shortB K V = true) (hn : V ≠ []) (hlt : V < K) : Calls Try.prog 13 #[v, two2 K V, .string (str mid)] w (Yes w) := by
  obtain ⟨wB, HW⟩ : ∃ W, Hid (W = w.alloc (.cells #[.string (str K), .string (str V)] 48)) := ⟨_, rfl⟩
  obtain ⟨x0, x1, b0⟩ := boxed w K V 48
  rw [← HW.out] at x0 x1 b0
  have HB0 := hid b0
  have X0 := hid x0
  have X1 := hid x1
  clear x0 x1 b0
  obtain ⟨e1, e2⟩ := ne_nil_str hn
  have e3 : Op.bytesLess (str V).toList (str K).toList = true := by rw [less_str bV bK, decide_eq_true hlt]
  have BV := hid bV
  have BK := hid bK
  have HE := hid str_nil
  obtain ⟨hK, hV⟩ : K.length ≤ 300 ∧ V.length ≤ 300 := by unfold shortB at hs; exact of_decide_eq_true hs
  unfold two2
  go_enter Try.func13, Try.ntmps13
  go_wp2_with fail
  rw [← HW.out]
  refine (few_any wB _ os (hv.below HB0.out)).mono ?_
  rw [hf]
  rintro e w1 ⟨rfl, rfl⟩
  have x0 := X0.out
  have x1 := X1.out
  go_wp2_with fail
  refine (short_any wB K V).mono ?_
  rw [hs]
  rintro e w2 ⟨rfl, hb2⟩
  have HB2 := hid hb2
  clear hb2
  go_wp2_with fail
  refine (made_ok w2 2 (by decide) (by decide) v os ((hv.below HB0.out).below HB2.out) hos hf).mono ?_
  rintro e w1 ⟨a, p, P, G, rfl, hst⟩
  have HS : Hid (St wB w1 P G a p (runL [] os) 2) := ⟨hst.t, hst.r, hst.n, hst.m, ((Chg.of_below (F := []) HB2.out).less (K := []) (fun k hk => by cases hk)).trans hst.c⟩
  clear hst x0 x1
  have x0 := below_keep HS.out.since _ _ X0.out
  have x1 := below_keep HS.out.since _ _ X1.out
  go_wp2_with fail
  refine (new_bad _ a K V BK.out BV.out hn hlt).mono ?_
  rintro e w3 ⟨rfl, rfl⟩
  go_wp2_with fail
  refine (scan_bad _ a K V 1000 BK.out BV.out hn hlt).mono ?_
  rintro e w3 ⟨rfl, hb3⟩
  have HS3 := hid (HS.out.below_ hb3)
  go_wp2_with fail
  refine (awake5_yes _).mono ?_
  rintro e wz ⟨rfl, hbz⟩
  go_wp2
  go_ret
  exact ⟨rfl, below_step HB0.out (below_step HS3.out.since hbz)⟩
/-- How many pairs so far lie in the range, in the block that comes next after w; nothing of w has turned. -/
def CntI (w : World) (lo hi : List Nat) (pre : List Pr) (K : Bl) (W : World) : Prop :=
  (W.cell? ⟨w.heap.size, 0, none⟩ = some (.int .i64 ((pre.filter (inQ lo hi)).length : Nat)) ∧ W.frozen? ⟨w.heap.size, 0, none⟩ = false ∧ ¬ K w.heap.size) ∧ Below w.heap.size w W
theorem cntI_abide {w : World} {lo hi : List Nat} : Abide (w.heap.size + 1) (CntI w lo hi) := by
  rintro s K A A' row ⟨⟨hn, hnf, kb⟩, hB⟩ hg hr K' hK'
  have hsz : w.heap.size < A.heap.size := blk_lt hn
  have hA : Below (w.heap.size + 1) A A' := (Below.refl _ A).grown hg hsz fun k e => (hr k e).1
  refine ⟨⟨(hA.cell (by show w.heap.size < _; omega)).trans hn, (hA.frozen (by show w.heap.size < _; omega)).trans hnf, fun h => ?_⟩, hB.grown hg hB.size fun k e => by have := (hr k e).1; omega⟩
  rcases hK' w.heap.size h with h | h
  · exact kb h
  · omega
set_option maxHeartbeats 8000000 in
theorem whole_okB (w : World) (v : Value) (os : List Cl) (K : List Nat) (mid : List Nat) (hv : Elems 3 cO w v os) (bMid : Byt mid) (hml : mid.length ≤ 140737488355328) (hos : ClsOk os) (bK : Byt K) (hf : fewB os = true) (hs : shortB K [] = true) : Calls Try.prog 13 #[v, two2 K [], .string (str mid)] w (Yes w) := by
  obtain ⟨wB, HW⟩ : ∃ W, Hid (W = w.alloc (.cells #[.string (str K), .string (str [])] 48)) := ⟨_, rfl⟩
  obtain ⟨x0, x1, b0⟩ := boxed w K [] 48
  rw [← HW.out] at x0 x1 b0
  rw [← str_nil] at x1
  have HB0 := hid b0
  have X0 := hid x0
  have X1 := hid x1
  clear x0 x1 b0
  have BK := hid bK
  have HE := hid str_nil
  obtain ⟨hK, hV⟩ : K.length ≤ 300 ∧ ([] : List Nat).length ≤ 300 := by unfold shortB at hs; exact of_decide_eq_true hs
  have BMID := hid bMid
  have HML := hid hml
  unfold two2
  refine (callsIn_wide (n := 3)).1 ?_
  refine callsIn_of_wp_marks Try.func13 rfl trivial ?_ rfl
  simp only [Try.ntmps13, List.size_toArray, List.length_cons, List.length_nil, Nat.reduceAdd, Nat.reduceSub, Array.replicate_succ, Array.replicate_zero, List.push_toArray, List.append_toArray, List.nil_append, List.cons_append]
  refine wpIn_wide.2 ?_
  go_wp2_with fail
  rw [← HW.out]
  refine (few_any wB _ os (hv.below HB0.out)).mono ?_
  rw [hf]
  rintro e w1 ⟨rfl, rfl⟩
  have x0 := X0.out
  have x1 := X1.out
  go_wp2_with fail
  rw [HE.out]
  refine (short_any wB K []).mono ?_
  rw [hs]
  rintro e w2 ⟨rfl, hb2⟩
  have HB2 := hid hb2
  clear hb2
  go_wp2_with fail
  refine (made_ok w2 2 (by decide) (by decide) v os ((hv.below HB0.out).below HB2.out) hos hf).mono ?_
  rintro e w1 ⟨a, p, P, G, rfl, hst⟩
  have HS : Hid (St wB w1 P G a p (runL [] os) 2) := ⟨hst.t, hst.r, hst.n, hst.m, ((Chg.of_below (F := []) HB2.out).less (K := []) (fun k hk => by cases hk)).trans hst.c⟩
  clear hst x0 x1
  have x0 := below_keep HS.out.since _ _ X0.out
  have x1 := below_keep HS.out.since _ _ X1.out
  have hLL := run_few hf
  obtain ⟨L, HLE⟩ : ∃ L, Hid (L = runL [] os) := ⟨_, rfl⟩
  have HKY : Hid (Keyed L) := by rw [HLE.out]; exact run_keyed os
  rw [← HLE.out] at HS hLL
  obtain ⟨ws0, rfl⟩ : ∃ ws0, ws0 = w1 := ⟨_, rfl⟩
  have hal := HS.out.t.lt
  have HU := hid HS.out.t.under
  go_wp2_with fail
  rw [HE.out]
  refine (new_ok _ a K [] BK.out (fun b hb => by cases hb) (by omega) (by decide) (.inl rfl)).mono ?_
  rintro e w3 ⟨c, rfl, hb3, hc3, hcur⟩
  have HB3 := hid hb3
  have HC3 := hid hcur
  have hcl := hcur.lt
  clear x0 x1 hb3 hcur
  have x0 := below_keep (below_step HS.out.since HB3.out) _ _ X0.out
  have x1 := below_keep (below_step HS.out.since HB3.out) _ _ X1.out
  go_wp2_with fail
  rw [HE.out]
  refine (scan_ok _ a 2 1000 K [] L P (HS.out.t.below HB3.out) (by omega) HKY.out BK.out (fun b hb => by cases hb) (by omega) (by decide) (.inl rfl) (by decide)).mono ?_
  rintro e ws ⟨gv, rfl, hown, hb7⟩
  obtain ⟨S, HSE⟩ : ∃ S, Hid (S = seg L [] (atN L K) 1000) := ⟨_, rfl⟩
  rw [← HSE.out] at hown
  obtain ⟨Ag, m, cg, rfl⟩ := hown.rows.form
  have HM : Hid (m = S.length) := hown.rows.cap.1
  have HENL := hid (endN_le L [])
  have hm200 : m ≤ 200 := by
    have h1 := HM.out
    rw [HSE.out, seg_len] at h1
    have := HENL.out
    omega
  have HOWN := hid hown
  have HB4 := hid (below_step HB3.out hb7)
  have HC7 := hid (HC3.out.below hb7)
  have HT7 := hid (HS.out.t.below HB4.out)
  have HX7 : Hid (Chg [] ws0 ws [c]) := (Chg.of_below (F := []) HB4.out).less fun k hk => by simp at hk; subst hk; exact .inr hc3
  have HRI := hid HT7.out.rise
  have HBYT := hid HT7.out.byt
  obtain ⟨j0, HJ0⟩ : ∃ j, Hid (j = atN L K) := ⟨_, rfl⟩
  have HSEG : Hid (∀ k, k < 1000 → ∀ at2, atN L at2 = atN L K + k → nxt L [] at2 = S[k]?) := fun k hk at2 h => by rw [HSE.out]; exact nxt_seg HT7.out.rise hk h
  rw [← HJ0.out] at HSEG
  have HIN : Hid (∀ (k : Nat) (q : Pr), S[k]? = some q → Byt q.1 ∧ Byt q.2 ∧ ¬ q.1 < K ∧ ([] = [] ∨ q.1 < [])) := fun k q h => by
    rw [HSE.out] at h
    have h1 := HBYT.out q (seg_mem (List.mem_of_getElem? h))
    exact ⟨h1.1, h1.2, seg_in HRI.out (.inl rfl) h⟩
  have HRS : Hid (Rising S) := by rw [HSE.out]; exact seg_rise HRI.out _ _ _
  have HOLD : Hid (∀ wr, Chg [c] ws wr [c] → Elems 2 cP wr (.slice Ag m cg) S) := fun wr hc => (HOWN.out.keep fun b hb => hc.block b (HOWN.out.lt b hb).2 (fun h => by
    have := (HOWN.out.lt b hb).1
    simp at h
    omega)).rows
  have HBX : Hid (∀ wr, Chg [c] ws wr [c] → Below wB.heap.size wB wr) := fun wr hc => below_step HS.out.since ((HX7.out.trans hc).below (fun _ h => by cases h) (Nat.le_refl _))
  clear hown hb7 x0 x1
  have x0 := below_keep (HBX.out _ (Chg.refl _ _)) _ _ X0.out
  have x1 := below_keep (HBX.out _ (Chg.refl _ _)) _ _ X1.out
  go_wp2
  clear x0 x1
  go_loopw [13] (fun i wr => ∃ k : Nat, k ≤ m + 1 ∧ i = .int .i64 k ∧ ∃ atc, CurAt wr c a K [] atc ∧ Hid (Byt atc ∧ atN L atc = j0 + min k m) ∧ TreeAt wr a 2 L P ∧ Chg [c] ws wr [c]) (fun i _ => m + 2 - (intOf i).toNat)
  case atStart => exact ⟨0, by omega, rfl, K, HC7.out, ⟨BK.out, by have := HJ0.out; omega⟩, HT7.out, Chg.refl _ _⟩
  case round =>
    obtain ⟨k, hk, rfl, atc, hcc, HAT, ht, hx⟩ := hrel
    have HC := hid hcc
    have HT := hid ht
    have HX := hid hx
    clear hcc ht hx
    by_cases hkm : k ≤ m
    · have hkmi : (k : Int) ≤ m := by omega
      have hnd := HSEG.out k (by omega) atc (by have := HAT.out.2; omega)
      cases hq : S[k]? with
      | none =>
        have hkl : k = m := by have := List.getElem?_eq_none_iff.1 hq; have := HM.out; omega
        have hkli : ¬ (k : Int) < m := by omega
        have HKM := hid hkl
        rw [hq] at hnd
        clear hq hkl
        go_wp2_with fail
        refine (next_none HC.out HT.out (by omega) (fun b hb => by cases hb) HAT.out.1 hnd).mono ?_
        rintro e w11 ⟨rfl, hb⟩
        replace HC := hid (HC.out.below hb)
        replace HT := hid (HT.out.below hb)
        replace HX := hid (HX.out.step_below hb)
        clear hb
        go_wp2
        go_roundw
        case rel => exact ⟨k + 1, by omega, by go_num, atc, HC.out, ⟨HAT.out.1, by have := HAT.out.2; have := HKM.out; omega⟩, HT.out, HX.out⟩
        case measure => simp [intOf]; omega
      | some q =>
        have hkl : k < m := by have := (List.getElem?_eq_some_iff.1 hq).1; have := HM.out; omega
        have hkli : (k : Int) < m := by omega
        have HKL := hid hkl
        have HQ := hid hq
        obtain ⟨hq1, hq2, hq3, hq4⟩ := HIN.out k q hq
        have HQ1 := hid hq1
        rw [hq] at hnd
        have e10 := less_no hq1 BK.out hq3
        have HND := hid hnd
        clear hq hkl hnd
        go_wp2_with fail
        refine (next_some HC.out HT.out (by omega) HKY.out (fun b hb => by cases hb) HAT.out.1 HND.out).mono ?_
        rintro e w11 ⟨rfl, hcu, hch⟩
        replace HC := hid hcu
        replace HT := hid (HT.out.chg hch (by simp; omega) (fun b hb h => by simp at hb; subst hb; have := HU.out _ h; omega))
        replace HX := hid (HX.out.trans hch)
        clear hcu hch
        have x0 := below_keep (HBX.out _ HX.out) _ _ X0.out
        have x1 := below_keep (HBX.out _ HX.out) _ _ X1.out
        obtain ⟨ad, HAG, q0, q1⟩ := (HOLD.out _ HX.out).pcell2 HQ.out
        subst HAG
        have k1 := beq_str hq1 hq1
        have k2 := beq_str hq2 hq2
        simp only [decide_true] at k1 k2
        by_cases hk0 : k = 0
        · have hk0i : ¬ (0 : Int) < (k : Int) := by omega
          clear hk0
          go_wp2
          go_roundw
          case rel => exact ⟨k + 1, by omega, by go_num, q.1 ++ [0], HC.out, ⟨HQ1.out.app (by intro b hb; simp at hb; omega), by rw [atN_behind HRI.out HND.out]; have := HAT.out.2; have := HKL.out; omega⟩, HT.out, HX.out⟩
          case measure => simp [intOf]; omega
        · obtain ⟨k', rfl⟩ : ∃ k', k = k' + 1 := ⟨k - 1, by omega⟩
          have hk0i : (0 : Int) < ((k' + 1 : Nat) : Int) := by omega
          obtain ⟨p, hp⟩ : ∃ p, S[k']? = some p := ⟨S[k']'(by have := HM.out; omega), List.getElem?_eq_getElem _⟩
          have hpq := rise_step HRS.out hp HQ.out
          obtain ⟨hp1, _, _, _⟩ := HIN.out k' p hp
          obtain ⟨ad2, HAG2, r0, r1⟩ := (HOLD.out _ HX.out).pcell2 hp
          injection HAG2 with HAG2
          subst HAG2
          have e21 := less_no hq1 hp1 (lt_not hpq)
          obtain ⟨e22, e23⟩ := ne_str_ hq1 hp1 (lt_ne hpq).symm
          have hw1 : IntKind.i64.wrap (((k' + 1 : Nat) : Int) - 1) = (k' : Int) := by rw [show (((k' + 1 : Nat) : Int) - 1) = (k' : Int) by omega]; exact wrap_ok (by omega) (by omega)
          clear hp
          go_wp2
          go_roundw
          case rel => exact ⟨k' + 1 + 1, by omega, by go_num, q.1 ++ [0], HC.out, ⟨HQ1.out.app (by intro b hb; simp at hb; omega), by rw [atN_behind HRI.out HND.out]; have := HAT.out.2; have := HKL.out; omega⟩, HT.out, HX.out⟩
          case measure => simp [intOf]; omega
    · obtain rfl : k = m + 1 := by omega
      have hki2 : ¬ ((m + 1 : Nat) : Int) ≤ m := by omega
      obtain ⟨wa, rfl⟩ : ∃ wa, wa = wr := ⟨_, rfl⟩
      have HBA := hid (HBX.out _ HX.out)
      have HOLA := hid (HOLD.out _ HX.out)
      have HL2 := hid hLL
      go_wp2_with fail
      refine HT.out.all.mono ?_
      rintro e w3 ⟨gf, lb, G, rfl, hb3, hw3, hG3⟩
      have HB3A := hid hb3
      have HB3B := hid (below_step HBA.out hb3)
      have hnil := run_eql_nil
      have cn := cellNew w3 (.int .i64 0) 3
      clear hb3
      go_wp2
      clear hnil
      have HAB := hid (cntI_abide (w := w3) (lo := K) (hi := []))
      refine (wpIn_wide (n := 3)).1 ?_
      refine range_own (gf := gf) (lb := lb) rfl hw3.en hw3.gives (w0 := w3) (Stay.of_below ((Below.refl _ w3).alloc (Nat.le_refl _) _) hw3.lt) (fun _ => rfl) (CntI w3 K []) (fun _ _ _ _ => False) (by rw [World.size_alloc]; exact HAB.out) (fun _ _ _ _ _ _ h => h.elim) G (fun _ h => h) (fun b hb => by have := hw3.lt b hb; simp; omega)
        ⟨⟨cn.1, cn.2, fun h => by have := hw3.lt _ h; omega⟩, (Below.refl _ w3).alloc (Nat.le_refl _) _⟩ ?round ?done ?stop
      case stop =>
        rintro D c pre K W _ h
        exact h.elim
      case round =>
        rintro lq pre x Kb W mm hI hKW hKl hlq hpre
        unfold encP
        gi_wp2
        refine ⟨Stay.refl _ _, fun W2 hg2 => ?_⟩
        have hI2 := HAB.out pre Kb W W2 (some lq) hI hg2 (fun r e => by injection e with e; subst e; simp at hlq; exact ⟨hlq, hKl⟩) Kb fun b h => .inl h
        clear hI hg2
        obtain ⟨⟨hn_, hnf, hkb⟩, hB⟩ := hI2
        have HBW := hid hB
        have x0 := below_keep (below_step HB3B.out hB) _ _ X0.out
        have x1 := below_keep (below_step HB3B.out hB) _ _ X1.out
        obtain ⟨n, HNE⟩ : ∃ n, Hid (n = (pre.filter (inQ K [])).length) := ⟨_, rfl⟩
        rw [← HNE.out] at hn_
        have hn200 : n ≤ 200 := by
          have h1 := List.length_filter_le (inQ K []) pre
          have h2 := hpre.length_le
          have := HL2.out
          rw [HNE.out]
          simp at h2; omega
        have hxb := HBYT.out x (hpre.subset (by simp))
        clear hpre hB
        by_cases h1 : x.1 < K
        · have e31 := less_yes hxb.1 BK.out h1
          have HF : Hid (((pre ++ [x]).filter (inQ K [])).length = n) := by
            show _ = _
            rw [List.filter_append, List.length_append, ← HNE.out]
            have hi : inQ K [] x = false := by unfold inQ inB; exact decide_eq_false fun h => h.1 h1
            simp [hi]
          gi_wp2
          refine ⟨Stay.refl _ _, ⟨by rw [HF.out]; exact hn_, hnf, hkb⟩, HBW.out⟩
        · have e31 := less_no hxb.1 BK.out h1
          have HF : Hid (((pre ++ [x]).filter (inQ K [])).length = n + 1) := by
            show _ = _
            rw [List.filter_append, List.length_append, ← HNE.out]
            have hi : inQ K [] x = true := by unfold inQ inB; exact decide_eq_true ⟨h1, .inl rfl⟩
            simp [hi]
          gi_wp2
          refine ⟨⟨by simp [World.setCell], fun b hb => Below.heap_setCell _ _ _ _ fun e => hkb (by rw [e] at hb; exact hb)⟩, ⟨?_, by rw [World.frozen?_setCell]; exact hnf, hkb⟩, HBW.out.setCell (p := ⟨w3.heap.size, 0, none⟩) (Nat.le_refl _) _⟩
          rw [HF.out]
          exact World.cell?_setCell_same' _ _ _ (by show (W2.cell? _).isSome = true; rw [hn_]; rfl)
      case done =>
        rintro D Kd W ⟨⟨hn_, hnf, _⟩, hB⟩ _ _ hD hK
        have HSH := hid hK
        have HDD := hid hD
        have HBW := hid hB
        have HBW2 := hid (below_step HB3B.out hB)
        have hcnt : (L.filter (inQ K [])).length = m := by
          rw [HM.out, HSE.out, ← filter_scan HRI.out K [] (.inl rfl) 1000, List.take_of_length_le]
          have h1 := List.length_filter_le (inQ K []) L
          have := HL2.out
          omega
        rw [hcnt] at hn_
        have HDW : Hid (w.heap.size ≤ D) := by
          show _ ≤ _
          have h1 := HDD.out
          have := HB3B.out.size
          have := HB0.out.size
          simp at h1; omega
        have x0 := below_keep HBW2.out _ _ X0.out
        have x1 := below_keep HBW2.out _ _ X1.out
        have HOLW := hid ((HOLA.out.below HB3A.out).below HBW.out)
        have HTW := hid ((HT.out.below HB3A.out).below HBW.out)
        clear hcnt hB hD hK hnf
        by_cases g1 : mid < K
        · have e41 := less_yes BMID.out BK.out g1
          clear g1
          go_wp2_with fail
          refine (awake5_yes _).mono ?_
          rintro e w21 ⟨rfl, hb21⟩
          have HB21 := hid (below_step HBW2.out hb21)
          have HK' := hid ((hb21.block D (Array.getElem?_eq_some_iff.1 HSH.out).1).trans HSH.out)
          clear hb21
          go_wp2
          refine ⟨by simp, .inl ⟨_, _, rfl, run_takeDeferred HK'.out, ?_⟩⟩
          refine ⟨.bool true, ?_, rfl, ?_⟩
          · simp [results, Try.f13, go_sem]
          · exact (below_step HB0.out HB21.out).trans (belowK_b (w := w) (Nat.le_refl _) _ D _ _ HDW.out HK'.out rfl rfl)
        · have e41 := less_no BMID.out BK.out g1
          by_cases g2 : mid = []
          · have e42 : (str mid).toList = [] := (beq_nil_str mid).2 g2
            have e43 : (str mid).toList.isEmpty = true := by rw [e42]; rfl
            have e45 : Op.bytesLess [] (str K).toList = false := by rw [← e42]; exact e41
            clear g2
            go_wp2_with fail
            refine (awake5_yes _).mono ?_
            rintro e w21 ⟨rfl, hb21⟩
            have HB21 := hid (below_step HBW2.out hb21)
            have HK' := hid ((hb21.block D (Array.getElem?_eq_some_iff.1 HSH.out).1).trans HSH.out)
            clear hb21
            go_wp2
            refine ⟨by simp, .inl ⟨_, _, rfl, run_takeDeferred HK'.out, ?_⟩⟩
            refine ⟨.bool true, ?_, rfl, ?_⟩
            · simp [results, Try.f13, go_sem]
            · exact (below_step HB0.out HB21.out).trans (belowK_b (w := w) (Nat.le_refl _) _ D _ _ HDW.out HK'.out rfl rfl)
          · obtain ⟨e42, e43⟩ := ne_nil_str g2
            have HJ0_ := hid (seg_join HRI.out HL2.out g2 g1 (.inl rfl) (hi := []))
            have hscA := fun W (ht : TreeAt W a 2 L P) => scan_ok W a 2 1000 K mid L P ht (by have := HL2.out; omega) HKY.out BK.out BMID.out (by omega) HML.out (.inr g1) (by decide)
            have hscB := fun W (ht : TreeAt W a 2 L P) => scan_ok W a 2 1000 mid [] L P ht (by have := HL2.out; omega) HKY.out BMID.out (fun b hb => by cases hb) HML.out (by decide) (.inl rfl) (by decide)
            have HSCA := hid hscA
            have HSCB := hid hscB
            clear hscA hscB
            (try clear g4)
            (try clear g3)
            clear g2 g1
            go_wp2_with fail
            refine (HSCA.out _ HTW.out).mono ?_
            rintro e wy ⟨av, rfl, howna, hba⟩
            have HBAY := hid hba
            have HBY := hid (below_step HBW2.out hba)
            clear hba x0 x1
            have x0 := below_keep HBY.out _ _ X0.out
            have x1 := below_keep HBY.out _ _ X1.out
            go_wp2_with fail
            rw [HE.out]
            refine (HSCB.out _ (HTW.out.below HBAY.out)).mono ?_
            rintro e wz ⟨bv, rfl, hownb, hbb⟩
            obtain ⟨SA, HSA⟩ : ∃ S, Hid (S = seg L mid (atN L K) 1000) := ⟨_, rfl⟩
            obtain ⟨SB, HSB⟩ : ∃ S, Hid (S = seg L [] (atN L mid) 1000) := ⟨_, rfl⟩
            rw [← HSA.out] at howna
            rw [← HSB.out] at hownb
            have HJN : Hid (S = SA ++ SB) := by
              show S = SA ++ SB
              rw [HSE.out, HSA.out, HSB.out]
              exact HJ0_.out
            obtain ⟨Aa, ma, ca, rfl⟩ := howna.rows.form
            obtain ⟨Ab, mb, cb, rfl⟩ := hownb.rows.form
            have HMA : Hid (ma = SA.length) := howna.rows.cap.1
            have HMB : Hid (mb = SB.length) := hownb.rows.cap.1
            have hsum : (ma : Int) + (mb : Int) = (m : Int) := by
              have h1 := congrArg List.length HJN.out
              rw [List.length_append, ← HM.out, ← HMA.out, ← HMB.out] at h1
              omega
            have hma : ma ≤ 200 := by omega
            have hmb : mb ≤ 200 := by omega
            have HA := hid (howna.rows.below hbb)
            have HB_ := hid hownb.rows
            have HG := hid ((HOLW.out.below HBAY.out).below hbb)
            have HBZ := hid (below_step HBY.out hbb)
            have HSHZ := hid ((hbb.block D (Nat.lt_of_lt_of_le (Array.getElem?_eq_some_iff.1 HSH.out).1 HBAY.out.size)).trans ((HBAY.out.block D (Array.getElem?_eq_some_iff.1 HSH.out).1).trans HSH.out))
            have heq := eq_two
            clear howna hownb hbb x0 x1 hn_
            go_wp2
            go_loopw [24] (fun i wr => ∃ k : Nat, k ≤ m ∧ i = .int .i64 k ∧ Below wz.heap.size wz wr) (fun i _ => m - (intOf i).toNat)
            case atStart => exact ⟨0, by omega, rfl, Below.refl _ _⟩
            case round =>
              obtain ⟨k, hk, rfl, hb⟩ := hrel
              have HB := hid hb
              clear hb
              by_cases hkm : k < m
              · have hkmi : (k : Int) < m := by omega
                obtain ⟨q, hq⟩ : ∃ q, S[k]? = some q := ⟨S[k]'(by have := HM.out; omega), List.getElem?_eq_getElem _⟩
                obtain ⟨ad, hAG, q0, q1⟩ := (HG.out.below HB.out).pcell2 hq
                subst hAG
                have hj : (SA ++ SB)[k]? = some q := by rw [← HJN.out]; exact hq
                by_cases hka : k < ma
                · have hkai : (k : Int) < ma := by omega
                  have hkd : decide ((k : Int) < (ma : Int)) = true := decide_eq_true hkai
                  have hkd2 : decide ((ma : Int) ≤ (k : Int)) = false := decide_eq_false (by omega)
                  have hkn : decide (k < ma) = true := decide_eq_true hka
                  have hkn2 : decide (ma ≤ k) = false := decide_eq_false (by omega)
                  rw [List.getElem?_append_left (by rw [← HMA.out]; exact hka)] at hj
                  obtain ⟨ad2, rfl, r0, r1⟩ := (HA.out.below HB.out).pcell2 hj
                  clear hq hj hka
                  go_wp2
                  go_quiet (fail)
                  go_wp2
                  go_roundw
                  case rel => exact ⟨k + 1, by omega, by go_num, below_drewN' HB.out _⟩
                  case measure => simp [intOf]; omega
                · have hkai : ¬ (k : Int) < ma := by omega
                  have hkai2 : (ma : Int) ≤ k := by omega
                  have hkd : decide ((k : Int) < (ma : Int)) = false := decide_eq_false hkai
                  have hkd2 : decide ((ma : Int) ≤ (k : Int)) = true := decide_eq_true hkai2
                  have hkn : decide (k < ma) = false := decide_eq_false hka
                  have hkn2 : decide (ma ≤ k) = true := decide_eq_true (by omega)
                  obtain ⟨k2, HK2⟩ : ∃ k2, Hid (k2 = k - ma) := ⟨_, rfl⟩
                  rw [List.getElem?_append_right (by rw [← HMA.out]; omega), ← HMA.out, ← HK2.out] at hj
                  obtain ⟨ad2, rfl, r0, r1⟩ := (HB_.out.below HB.out).pcell2 hj
                  have hw2 : IntKind.i64.wrap ((k : Int) - (ma : Int)) = (k2 : Int) := by
                    have := HK2.out
                    rw [show ((k : Int) - (ma : Int)) = (k2 : Int) by omega]
                    exact wrap_ok (by omega) (by omega)
                  have hk2 : k2 < mb := by have := HK2.out; omega
                  clear hq hj hka
                  go_wp2
                  go_quiet (fail)
                  go_wp2
                  go_roundw
                  case rel => exact ⟨k + 1, by omega, by go_num, below_drewN' HB.out _⟩
                  case measure => simp [intOf]; omega
              · obtain rfl : k = m := by omega
                have HBR := hid (below_step HBZ.out HB.out)
                have HSH := hid ((HB.out.block D (Array.getElem?_eq_some_iff.1 HSHZ.out).1).trans HSHZ.out)
                go_wp2_with fail
                refine (awake5_yes _).mono ?_
                rintro e w21 ⟨rfl, hb21⟩
                have HB21 := hid (below_step HBR.out hb21)
                have HK' := hid ((hb21.block D (Array.getElem?_eq_some_iff.1 HSH.out).1).trans HSH.out)
                clear hb21
                go_wp2
                refine ⟨by simp, .inl ⟨_, _, rfl, run_takeDeferred HK'.out, ?_⟩⟩
                refine ⟨.bool true, ?_, rfl, ?_⟩
                · simp [results, Try.f13, go_sem]
                · exact (below_step HB0.out HB21.out).trans (belowK_b (w := w) (Nat.le_refl _) _ D _ _ HDW.out HK'.out rfl rfl)
set_option maxHeartbeats 8000000 in
theorem whole_okC (w : World) (v : Value) (os : List Cl) (K V : List Nat) (mid : List Nat) (hv : Elems 3 cO w v os) (bMid : Byt mid) (hml : mid.length ≤ 140737488355328) (hos : ClsOk os) (bK : Byt K) (bV : Byt V) (hf : fewB os = true) (hs : shortB K V = true) (hn : V ≠ []) (hlt : ¬ V < K) : Calls Try.prog 13 #[v, two2 K V, .string (str mid)] w (Yes w) := by
  obtain ⟨wB, HW⟩ : ∃ W, Hid (W = w.alloc (.cells #[.string (str K), .string (str V)] 48)) := ⟨_, rfl⟩
  obtain ⟨x0, x1, b0⟩ := boxed w K V 48
  rw [← HW.out] at x0 x1 b0
  have HB0 := hid b0
  have X0 := hid x0
  have X1 := hid x1
  clear x0 x1 b0
  obtain ⟨e1, e2⟩ := ne_nil_str hn
  have e3 : Op.bytesLess (str V).toList (str K).toList = false := by rw [less_str bV bK, decide_eq_false hlt]
  have BV := hid bV
  have BK := hid bK
  have HE := hid str_nil
  obtain ⟨hK, hV⟩ : K.length ≤ 300 ∧ V.length ≤ 300 := by unfold shortB at hs; exact of_decide_eq_true hs
  have BMID := hid bMid
  have HML := hid hml
  unfold two2
  refine (callsIn_wide (n := 3)).1 ?_
  refine callsIn_of_wp_marks Try.func13 rfl trivial ?_ rfl
  simp only [Try.ntmps13, List.size_toArray, List.length_cons, List.length_nil, Nat.reduceAdd, Nat.reduceSub, Array.replicate_succ, Array.replicate_zero, List.push_toArray, List.append_toArray, List.nil_append, List.cons_append]
  refine wpIn_wide.2 ?_
  go_wp2_with fail
  rw [← HW.out]
  refine (few_any wB _ os (hv.below HB0.out)).mono ?_
  rw [hf]
  rintro e w1 ⟨rfl, rfl⟩
  have x0 := X0.out
  have x1 := X1.out
  go_wp2_with fail
  refine (short_any wB K V).mono ?_
  rw [hs]
  rintro e w2 ⟨rfl, hb2⟩
  have HB2 := hid hb2
  clear hb2
  go_wp2_with fail
  refine (made_ok w2 2 (by decide) (by decide) v os ((hv.below HB0.out).below HB2.out) hos hf).mono ?_
  rintro e w1 ⟨a, p, P, G, rfl, hst⟩
  have HS : Hid (St wB w1 P G a p (runL [] os) 2) := ⟨hst.t, hst.r, hst.n, hst.m, ((Chg.of_below (F := []) HB2.out).less (K := []) (fun k hk => by cases hk)).trans hst.c⟩
  clear hst x0 x1
  have x0 := below_keep HS.out.since _ _ X0.out
  have x1 := below_keep HS.out.since _ _ X1.out
  have hLL := run_few hf
  obtain ⟨L, HLE⟩ : ∃ L, Hid (L = runL [] os) := ⟨_, rfl⟩
  have HKY : Hid (Keyed L) := by rw [HLE.out]; exact run_keyed os
  rw [← HLE.out] at HS hLL
  obtain ⟨ws0, rfl⟩ : ∃ ws0, ws0 = w1 := ⟨_, rfl⟩
  have hal := HS.out.t.lt
  have HU := hid HS.out.t.under
  go_wp2_with fail
  refine (new_ok _ a K V BK.out BV.out (by omega) (by omega) (.inr hlt)).mono ?_
  rintro e w3 ⟨c, rfl, hb3, hc3, hcur⟩
  have HB3 := hid hb3
  have HC3 := hid hcur
  have hcl := hcur.lt
  clear x0 x1 hb3 hcur
  have x0 := below_keep (below_step HS.out.since HB3.out) _ _ X0.out
  have x1 := below_keep (below_step HS.out.since HB3.out) _ _ X1.out
  go_wp2_with fail
  refine (scan_ok _ a 2 1000 K V L P (HS.out.t.below HB3.out) (by omega) HKY.out BK.out BV.out (by omega) (by omega) (.inr hlt) (by decide)).mono ?_
  rintro e ws ⟨gv, rfl, hown, hb7⟩
  obtain ⟨S, HSE⟩ : ∃ S, Hid (S = seg L V (atN L K) 1000) := ⟨_, rfl⟩
  rw [← HSE.out] at hown
  obtain ⟨Ag, m, cg, rfl⟩ := hown.rows.form
  have HM : Hid (m = S.length) := hown.rows.cap.1
  have HENL := hid (endN_le L V)
  have hm200 : m ≤ 200 := by
    have h1 := HM.out
    rw [HSE.out, seg_len] at h1
    have := HENL.out
    omega
  have HOWN := hid hown
  have HB4 := hid (below_step HB3.out hb7)
  have HC7 := hid (HC3.out.below hb7)
  have HT7 := hid (HS.out.t.below HB4.out)
  have HX7 : Hid (Chg [] ws0 ws [c]) := (Chg.of_below (F := []) HB4.out).less fun k hk => by simp at hk; subst hk; exact .inr hc3
  have HRI := hid HT7.out.rise
  have HBYT := hid HT7.out.byt
  obtain ⟨j0, HJ0⟩ : ∃ j, Hid (j = atN L K) := ⟨_, rfl⟩
  have HSEG : Hid (∀ k, k < 1000 → ∀ at2, atN L at2 = atN L K + k → nxt L V at2 = S[k]?) := fun k hk at2 h => by rw [HSE.out]; exact nxt_seg HT7.out.rise hk h
  rw [← HJ0.out] at HSEG
  have HIN : Hid (∀ (k : Nat) (q : Pr), S[k]? = some q → Byt q.1 ∧ Byt q.2 ∧ ¬ q.1 < K ∧ (V = [] ∨ q.1 < V)) := fun k q h => by
    rw [HSE.out] at h
    have h1 := HBYT.out q (seg_mem (List.mem_of_getElem? h))
    exact ⟨h1.1, h1.2, seg_in HRI.out (.inr hlt) h⟩
  have HRS : Hid (Rising S) := by rw [HSE.out]; exact seg_rise HRI.out _ _ _
  have HOLD : Hid (∀ wr, Chg [c] ws wr [c] → Elems 2 cP wr (.slice Ag m cg) S) := fun wr hc => (HOWN.out.keep fun b hb => hc.block b (HOWN.out.lt b hb).2 (fun h => by
    have := (HOWN.out.lt b hb).1
    simp at h
    omega)).rows
  have HBX : Hid (∀ wr, Chg [c] ws wr [c] → Below wB.heap.size wB wr) := fun wr hc => below_step HS.out.since ((HX7.out.trans hc).below (fun _ h => by cases h) (Nat.le_refl _))
  clear hown hb7 x0 x1
  have x0 := below_keep (HBX.out _ (Chg.refl _ _)) _ _ X0.out
  have x1 := below_keep (HBX.out _ (Chg.refl _ _)) _ _ X1.out
  go_wp2
  clear x0 x1
  go_loopw [13] (fun i wr => ∃ k : Nat, k ≤ m + 1 ∧ i = .int .i64 k ∧ ∃ atc, CurAt wr c a K V atc ∧ Hid (Byt atc ∧ atN L atc = j0 + min k m) ∧ TreeAt wr a 2 L P ∧ Chg [c] ws wr [c]) (fun i _ => m + 2 - (intOf i).toNat)
  case atStart => exact ⟨0, by omega, rfl, K, HC7.out, ⟨BK.out, by have := HJ0.out; omega⟩, HT7.out, Chg.refl _ _⟩
  case round =>
    obtain ⟨k, hk, rfl, atc, hcc, HAT, ht, hx⟩ := hrel
    have HC := hid hcc
    have HT := hid ht
    have HX := hid hx
    clear hcc ht hx
    by_cases hkm : k ≤ m
    · have hkmi : (k : Int) ≤ m := by omega
      have hnd := HSEG.out k (by omega) atc (by have := HAT.out.2; omega)
      cases hq : S[k]? with
      | none =>
        have hkl : k = m := by have := List.getElem?_eq_none_iff.1 hq; have := HM.out; omega
        have hkli : ¬ (k : Int) < m := by omega
        have HKM := hid hkl
        rw [hq] at hnd
        clear hq hkl
        go_wp2_with fail
        refine (next_none HC.out HT.out (by omega) BV.out HAT.out.1 hnd).mono ?_
        rintro e w11 ⟨rfl, hb⟩
        replace HC := hid (HC.out.below hb)
        replace HT := hid (HT.out.below hb)
        replace HX := hid (HX.out.step_below hb)
        clear hb
        go_wp2
        go_roundw
        case rel => exact ⟨k + 1, by omega, by go_num, atc, HC.out, ⟨HAT.out.1, by have := HAT.out.2; have := HKM.out; omega⟩, HT.out, HX.out⟩
        case measure => simp [intOf]; omega
      | some q =>
        have hkl : k < m := by have := (List.getElem?_eq_some_iff.1 hq).1; have := HM.out; omega
        have hkli : (k : Int) < m := by omega
        have HKL := hid hkl
        have HQ := hid hq
        obtain ⟨hq1, hq2, hq3, hq4⟩ := HIN.out k q hq
        have HQ1 := hid hq1
        rw [hq] at hnd
        have e10 := less_no hq1 BK.out hq3
        have HND := hid hnd
        have e13 := less_yes hq1 BV.out (hq4.resolve_left hn)
        have e14 := less_no BV.out hq1 (lt_not (hq4.resolve_left hn))
        have e15 := ne_str_ hq1 BV.out (lt_ne (hq4.resolve_left hn))
        have e16 := ne_str_ BV.out hq1 (lt_ne (hq4.resolve_left hn)).symm
        obtain ⟨e17, e18⟩ := e15
        obtain ⟨e19, e20⟩ := e16
        clear hq hkl hnd
        go_wp2_with fail
        refine (next_some HC.out HT.out (by omega) HKY.out BV.out HAT.out.1 HND.out).mono ?_
        rintro e w11 ⟨rfl, hcu, hch⟩
        replace HC := hid hcu
        replace HT := hid (HT.out.chg hch (by simp; omega) (fun b hb h => by simp at hb; subst hb; have := HU.out _ h; omega))
        replace HX := hid (HX.out.trans hch)
        clear hcu hch
        have x0 := below_keep (HBX.out _ HX.out) _ _ X0.out
        have x1 := below_keep (HBX.out _ HX.out) _ _ X1.out
        obtain ⟨ad, HAG, q0, q1⟩ := (HOLD.out _ HX.out).pcell2 HQ.out
        subst HAG
        have k1 := beq_str hq1 hq1
        have k2 := beq_str hq2 hq2
        simp only [decide_true] at k1 k2
        by_cases hk0 : k = 0
        · have hk0i : ¬ (0 : Int) < (k : Int) := by omega
          clear hk0
          go_wp2
          go_roundw
          case rel => exact ⟨k + 1, by omega, by go_num, q.1 ++ [0], HC.out, ⟨HQ1.out.app (by intro b hb; simp at hb; omega), by rw [atN_behind HRI.out HND.out]; have := HAT.out.2; have := HKL.out; omega⟩, HT.out, HX.out⟩
          case measure => simp [intOf]; omega
        · obtain ⟨k', rfl⟩ : ∃ k', k = k' + 1 := ⟨k - 1, by omega⟩
          have hk0i : (0 : Int) < ((k' + 1 : Nat) : Int) := by omega
          obtain ⟨p, hp⟩ : ∃ p, S[k']? = some p := ⟨S[k']'(by have := HM.out; omega), List.getElem?_eq_getElem _⟩
          have hpq := rise_step HRS.out hp HQ.out
          obtain ⟨hp1, _, _, _⟩ := HIN.out k' p hp
          obtain ⟨ad2, HAG2, r0, r1⟩ := (HOLD.out _ HX.out).pcell2 hp
          injection HAG2 with HAG2
          subst HAG2
          have e21 := less_no hq1 hp1 (lt_not hpq)
          obtain ⟨e22, e23⟩ := ne_str_ hq1 hp1 (lt_ne hpq).symm
          have hw1 : IntKind.i64.wrap (((k' + 1 : Nat) : Int) - 1) = (k' : Int) := by rw [show (((k' + 1 : Nat) : Int) - 1) = (k' : Int) by omega]; exact wrap_ok (by omega) (by omega)
          clear hp
          go_wp2
          go_roundw
          case rel => exact ⟨k' + 1 + 1, by omega, by go_num, q.1 ++ [0], HC.out, ⟨HQ1.out.app (by intro b hb; simp at hb; omega), by rw [atN_behind HRI.out HND.out]; have := HAT.out.2; have := HKL.out; omega⟩, HT.out, HX.out⟩
          case measure => simp [intOf]; omega
    · obtain rfl : k = m + 1 := by omega
      have hki2 : ¬ ((m + 1 : Nat) : Int) ≤ m := by omega
      obtain ⟨wa, rfl⟩ : ∃ wa, wa = wr := ⟨_, rfl⟩
      have HBA := hid (HBX.out _ HX.out)
      have HOLA := hid (HOLD.out _ HX.out)
      have HL2 := hid hLL
      go_wp2_with fail
      refine HT.out.all.mono ?_
      rintro e w3 ⟨gf, lb, G, rfl, hb3, hw3, hG3⟩
      have HB3A := hid hb3
      have HB3B := hid (below_step HBA.out hb3)
      have hnil := run_eql_nil
      have cn := cellNew w3 (.int .i64 0) 3
      clear hb3
      go_wp2
      clear hnil
      have HAB := hid (cntI_abide (w := w3) (lo := K) (hi := V))
      refine (wpIn_wide (n := 3)).1 ?_
      refine range_own (gf := gf) (lb := lb) rfl hw3.en hw3.gives (w0 := w3) (Stay.of_below ((Below.refl _ w3).alloc (Nat.le_refl _) _) hw3.lt) (fun _ => rfl) (CntI w3 K V) (fun _ _ _ _ => False) (by rw [World.size_alloc]; exact HAB.out) (fun _ _ _ _ _ _ h => h.elim) G (fun _ h => h) (fun b hb => by have := hw3.lt b hb; simp; omega)
        ⟨⟨cn.1, cn.2, fun h => by have := hw3.lt _ h; omega⟩, (Below.refl _ w3).alloc (Nat.le_refl _) _⟩ ?round ?done ?stop
      case stop =>
        rintro D c pre K W _ h
        exact h.elim
      case round =>
        rintro lq pre x Kb W mm hI hKW hKl hlq hpre
        unfold encP
        gi_wp2
        refine ⟨Stay.refl _ _, fun W2 hg2 => ?_⟩
        have hI2 := HAB.out pre Kb W W2 (some lq) hI hg2 (fun r e => by injection e with e; subst e; simp at hlq; exact ⟨hlq, hKl⟩) Kb fun b h => .inl h
        clear hI hg2
        obtain ⟨⟨hn_, hnf, hkb⟩, hB⟩ := hI2
        have HBW := hid hB
        have x0 := below_keep (below_step HB3B.out hB) _ _ X0.out
        have x1 := below_keep (below_step HB3B.out hB) _ _ X1.out
        obtain ⟨n, HNE⟩ : ∃ n, Hid (n = (pre.filter (inQ K V)).length) := ⟨_, rfl⟩
        rw [← HNE.out] at hn_
        have hn200 : n ≤ 200 := by
          have h1 := List.length_filter_le (inQ K V) pre
          have h2 := hpre.length_le
          have := HL2.out
          rw [HNE.out]
          simp at h2; omega
        have hxb := HBYT.out x (hpre.subset (by simp))
        clear hpre hB
        by_cases h1 : x.1 < K
        · have e31 := less_yes hxb.1 BK.out h1
          have HF : Hid (((pre ++ [x]).filter (inQ K V)).length = n) := by
            show _ = _
            rw [List.filter_append, List.length_append, ← HNE.out]
            have hi : inQ K V x = false := by unfold inQ inB; exact decide_eq_false fun h => h.1 h1
            simp [hi]
          gi_wp2
          refine ⟨Stay.refl _ _, ⟨by rw [HF.out]; exact hn_, hnf, hkb⟩, HBW.out⟩
        · have e31 := less_no hxb.1 BK.out h1
          by_cases h2 : x.1 < V
          · have e32 := less_yes hxb.1 BV.out h2
            have HF : Hid (((pre ++ [x]).filter (inQ K V)).length = n + 1) := by
              show _ = _
              rw [List.filter_append, List.length_append, ← HNE.out]
              have hi : inQ K V x = true := by unfold inQ inB; exact decide_eq_true ⟨h1, .inr h2⟩
              simp [hi]
            gi_wp2
            refine ⟨⟨by simp [World.setCell], fun b hb => Below.heap_setCell _ _ _ _ fun e => hkb (by rw [e] at hb; exact hb)⟩, ⟨?_, by rw [World.frozen?_setCell]; exact hnf, hkb⟩, HBW.out.setCell (p := ⟨w3.heap.size, 0, none⟩) (Nat.le_refl _) _⟩
            rw [HF.out]
            exact World.cell?_setCell_same' _ _ _ (by show (W2.cell? _).isSome = true; rw [hn_]; rfl)
          · have e32 := less_no hxb.1 BV.out h2
            have HF : Hid (((pre ++ [x]).filter (inQ K V)).length = n) := by
              show _ = _
              rw [List.filter_append, List.length_append, ← HNE.out]
              have hi : inQ K V x = false := by unfold inQ inB; exact decide_eq_false fun h => h.2.elim hn h2
              simp [hi]
            gi_wp2
            refine ⟨Stay.refl _ _, ⟨by rw [HF.out]; exact hn_, hnf, hkb⟩, HBW.out⟩
      case done =>
        rintro D Kd W ⟨⟨hn_, hnf, _⟩, hB⟩ _ _ hD hK
        have HSH := hid hK
        have HDD := hid hD
        have HBW := hid hB
        have HBW2 := hid (below_step HB3B.out hB)
        have hcnt : (L.filter (inQ K V)).length = m := by
          rw [HM.out, HSE.out, ← filter_scan HRI.out K V (.inr hlt) 1000, List.take_of_length_le]
          have h1 := List.length_filter_le (inQ K V) L
          have := HL2.out
          omega
        rw [hcnt] at hn_
        have HDW : Hid (w.heap.size ≤ D) := by
          show _ ≤ _
          have h1 := HDD.out
          have := HB3B.out.size
          have := HB0.out.size
          simp at h1; omega
        have x0 := below_keep HBW2.out _ _ X0.out
        have x1 := below_keep HBW2.out _ _ X1.out
        have HOLW := hid ((HOLA.out.below HB3A.out).below HBW.out)
        have HTW := hid ((HT.out.below HB3A.out).below HBW.out)
        clear hcnt hB hD hK hnf
        by_cases g1 : mid < K
        · have e41 := less_yes BMID.out BK.out g1
          clear g1
          go_wp2_with fail
          refine (awake5_yes _).mono ?_
          rintro e w21 ⟨rfl, hb21⟩
          have HB21 := hid (below_step HBW2.out hb21)
          have HK' := hid ((hb21.block D (Array.getElem?_eq_some_iff.1 HSH.out).1).trans HSH.out)
          clear hb21
          go_wp2
          refine ⟨by simp, .inl ⟨_, _, rfl, run_takeDeferred HK'.out, ?_⟩⟩
          refine ⟨.bool true, ?_, rfl, ?_⟩
          · simp [results, Try.f13, go_sem]
          · exact (below_step HB0.out HB21.out).trans (belowK_b (w := w) (Nat.le_refl _) _ D _ _ HDW.out HK'.out rfl rfl)
        · have e41 := less_no BMID.out BK.out g1
          by_cases g2 : mid = []
          · have e42 : (str mid).toList = [] := (beq_nil_str mid).2 g2
            have e43 : (str mid).toList.isEmpty = true := by rw [e42]; rfl
            have e45 : Op.bytesLess [] (str K).toList = false := by rw [← e42]; exact e41
            clear g2
            go_wp2_with fail
            refine (awake5_yes _).mono ?_
            rintro e w21 ⟨rfl, hb21⟩
            have HB21 := hid (below_step HBW2.out hb21)
            have HK' := hid ((hb21.block D (Array.getElem?_eq_some_iff.1 HSH.out).1).trans HSH.out)
            clear hb21
            go_wp2
            refine ⟨by simp, .inl ⟨_, _, rfl, run_takeDeferred HK'.out, ?_⟩⟩
            refine ⟨.bool true, ?_, rfl, ?_⟩
            · simp [results, Try.f13, go_sem]
            · exact (below_step HB0.out HB21.out).trans (belowK_b (w := w) (Nat.le_refl _) _ D _ _ HDW.out HK'.out rfl rfl)
          · obtain ⟨e42, e43⟩ := ne_nil_str g2
            by_cases g3 : V < mid
            · have e44 := less_no BMID.out BV.out (lt_not g3)
              obtain ⟨e46, e47⟩ := ne_str_ BMID.out BV.out (lt_ne g3).symm
              clear g3
              go_wp2_with fail
              refine (awake5_yes _).mono ?_
              rintro e w21 ⟨rfl, hb21⟩
              have HB21 := hid (below_step HBW2.out hb21)
              have HK' := hid ((hb21.block D (Array.getElem?_eq_some_iff.1 HSH.out).1).trans HSH.out)
              clear hb21
              go_wp2
              refine ⟨by simp, .inl ⟨_, _, rfl, run_takeDeferred HK'.out, ?_⟩⟩
              refine ⟨.bool true, ?_, rfl, ?_⟩
              · simp [results, Try.f13, go_sem]
              · exact (below_step HB0.out HB21.out).trans (belowK_b (w := w) (Nat.le_refl _) _ D _ _ HDW.out HK'.out rfl rfl)
            · by_cases g4 : mid < V
              · have e44 := less_yes BMID.out BV.out g4
                have HJ0_ := hid (seg_join HRI.out HL2.out g2 g1 (.inr (lt_not g4)) (hi := V))
                have hscA := fun W (ht : TreeAt W a 2 L P) => scan_ok W a 2 1000 K mid L P ht (by have := HL2.out; omega) HKY.out BK.out BMID.out (by omega) HML.out (.inr g1) (by decide)
                have hscB := fun W (ht : TreeAt W a 2 L P) => scan_ok W a 2 1000 mid V L P ht (by have := HL2.out; omega) HKY.out BMID.out BV.out HML.out (by omega) (.inr (lt_not g4)) (by decide)
                have HSCA := hid hscA
                have HSCB := hid hscB
                clear hscA hscB
                (try clear g4)
                (try clear g3)
                clear g2 g1
                go_wp2_with fail
                refine (HSCA.out _ HTW.out).mono ?_
                rintro e wy ⟨av, rfl, howna, hba⟩
                have HBAY := hid hba
                have HBY := hid (below_step HBW2.out hba)
                clear hba x0 x1
                have x0 := below_keep HBY.out _ _ X0.out
                have x1 := below_keep HBY.out _ _ X1.out
                go_wp2_with fail
                refine (HSCB.out _ (HTW.out.below HBAY.out)).mono ?_
                rintro e wz ⟨bv, rfl, hownb, hbb⟩
                obtain ⟨SA, HSA⟩ : ∃ S, Hid (S = seg L mid (atN L K) 1000) := ⟨_, rfl⟩
                obtain ⟨SB, HSB⟩ : ∃ S, Hid (S = seg L V (atN L mid) 1000) := ⟨_, rfl⟩
                rw [← HSA.out] at howna
                rw [← HSB.out] at hownb
                have HJN : Hid (S = SA ++ SB) := by
                  show S = SA ++ SB
                  rw [HSE.out, HSA.out, HSB.out]
                  exact HJ0_.out
                obtain ⟨Aa, ma, ca, rfl⟩ := howna.rows.form
                obtain ⟨Ab, mb, cb, rfl⟩ := hownb.rows.form
                have HMA : Hid (ma = SA.length) := howna.rows.cap.1
                have HMB : Hid (mb = SB.length) := hownb.rows.cap.1
                have hsum : (ma : Int) + (mb : Int) = (m : Int) := by
                  have h1 := congrArg List.length HJN.out
                  rw [List.length_append, ← HM.out, ← HMA.out, ← HMB.out] at h1
                  omega
                have hma : ma ≤ 200 := by omega
                have hmb : mb ≤ 200 := by omega
                have HA := hid (howna.rows.below hbb)
                have HB_ := hid hownb.rows
                have HG := hid ((HOLW.out.below HBAY.out).below hbb)
                have HBZ := hid (below_step HBY.out hbb)
                have HSHZ := hid ((hbb.block D (Nat.lt_of_lt_of_le (Array.getElem?_eq_some_iff.1 HSH.out).1 HBAY.out.size)).trans ((HBAY.out.block D (Array.getElem?_eq_some_iff.1 HSH.out).1).trans HSH.out))
                have heq := eq_two
                clear howna hownb hbb x0 x1 hn_
                go_wp2
                go_loopw [24] (fun i wr => ∃ k : Nat, k ≤ m ∧ i = .int .i64 k ∧ Below wz.heap.size wz wr) (fun i _ => m - (intOf i).toNat)
                case atStart => exact ⟨0, by omega, rfl, Below.refl _ _⟩
                case round =>
                  obtain ⟨k, hk, rfl, hb⟩ := hrel
                  have HB := hid hb
                  clear hb
                  by_cases hkm : k < m
                  · have hkmi : (k : Int) < m := by omega
                    obtain ⟨q, hq⟩ : ∃ q, S[k]? = some q := ⟨S[k]'(by have := HM.out; omega), List.getElem?_eq_getElem _⟩
                    obtain ⟨ad, hAG, q0, q1⟩ := (HG.out.below HB.out).pcell2 hq
                    subst hAG
                    have hj : (SA ++ SB)[k]? = some q := by rw [← HJN.out]; exact hq
                    by_cases hka : k < ma
                    · have hkai : (k : Int) < ma := by omega
                      have hkd : decide ((k : Int) < (ma : Int)) = true := decide_eq_true hkai
                      have hkd2 : decide ((ma : Int) ≤ (k : Int)) = false := decide_eq_false (by omega)
                      have hkn : decide (k < ma) = true := decide_eq_true hka
                      have hkn2 : decide (ma ≤ k) = false := decide_eq_false (by omega)
                      rw [List.getElem?_append_left (by rw [← HMA.out]; exact hka)] at hj
                      obtain ⟨ad2, rfl, r0, r1⟩ := (HA.out.below HB.out).pcell2 hj
                      clear hq hj hka
                      go_wp2
                      go_quiet (fail)
                      go_wp2
                      go_roundw
                      case rel => exact ⟨k + 1, by omega, by go_num, below_drewN' HB.out _⟩
                      case measure => simp [intOf]; omega
                    · have hkai : ¬ (k : Int) < ma := by omega
                      have hkai2 : (ma : Int) ≤ k := by omega
                      have hkd : decide ((k : Int) < (ma : Int)) = false := decide_eq_false hkai
                      have hkd2 : decide ((ma : Int) ≤ (k : Int)) = true := decide_eq_true hkai2
                      have hkn : decide (k < ma) = false := decide_eq_false hka
                      have hkn2 : decide (ma ≤ k) = true := decide_eq_true (by omega)
                      obtain ⟨k2, HK2⟩ : ∃ k2, Hid (k2 = k - ma) := ⟨_, rfl⟩
                      rw [List.getElem?_append_right (by rw [← HMA.out]; omega), ← HMA.out, ← HK2.out] at hj
                      obtain ⟨ad2, rfl, r0, r1⟩ := (HB_.out.below HB.out).pcell2 hj
                      have hw2 : IntKind.i64.wrap ((k : Int) - (ma : Int)) = (k2 : Int) := by
                        have := HK2.out
                        rw [show ((k : Int) - (ma : Int)) = (k2 : Int) by omega]
                        exact wrap_ok (by omega) (by omega)
                      have hk2 : k2 < mb := by have := HK2.out; omega
                      clear hq hj hka
                      go_wp2
                      go_quiet (fail)
                      go_wp2
                      go_roundw
                      case rel => exact ⟨k + 1, by omega, by go_num, below_drewN' HB.out _⟩
                      case measure => simp [intOf]; omega
                  · obtain rfl : k = m := by omega
                    have HBR := hid (below_step HBZ.out HB.out)
                    have HSH := hid ((HB.out.block D (Array.getElem?_eq_some_iff.1 HSHZ.out).1).trans HSHZ.out)
                    go_wp2_with fail
                    refine (awake5_yes _).mono ?_
                    rintro e w21 ⟨rfl, hb21⟩
                    have HB21 := hid (below_step HBR.out hb21)
                    have HK' := hid ((hb21.block D (Array.getElem?_eq_some_iff.1 HSH.out).1).trans HSH.out)
                    clear hb21
                    go_wp2
                    refine ⟨by simp, .inl ⟨_, _, rfl, run_takeDeferred HK'.out, ?_⟩⟩
                    refine ⟨.bool true, ?_, rfl, ?_⟩
                    · simp [results, Try.f13, go_sem]
                    · exact (below_step HB0.out HB21.out).trans (belowK_b (w := w) (Nat.le_refl _) _ D _ _ HDW.out HK'.out rfl rfl)
              · obtain rfl : V = mid := (le_both g3 g4).symm
                have HJ0_ := hid (seg_join HRI.out HL2.out g2 g1 (.inr (List.lt_irrefl _)) (hi := V))
                have hscA := fun W (ht : TreeAt W a 2 L P) => scan_ok W a 2 1000 K V L P ht (by have := HL2.out; omega) HKY.out BK.out BMID.out (by omega) HML.out (.inr g1) (by decide)
                have hscB := fun W (ht : TreeAt W a 2 L P) => scan_ok W a 2 1000 V V L P ht (by have := HL2.out; omega) HKY.out BMID.out BV.out HML.out (by omega) (.inr (List.lt_irrefl _)) (by decide)
                have HSCA := hid hscA
                have HSCB := hid hscB
                clear hscA hscB
                (try clear g4)
                (try clear g3)
                clear g2 g1
                go_wp2_with fail
                refine (HSCA.out _ HTW.out).mono ?_
                rintro e wy ⟨av, rfl, howna, hba⟩
                have HBAY := hid hba
                have HBY := hid (below_step HBW2.out hba)
                clear hba x0 x1
                have x0 := below_keep HBY.out _ _ X0.out
                have x1 := below_keep HBY.out _ _ X1.out
                go_wp2_with fail
                refine (HSCB.out _ (HTW.out.below HBAY.out)).mono ?_
                rintro e wz ⟨bv, rfl, hownb, hbb⟩
                obtain ⟨SA, HSA⟩ : ∃ S, Hid (S = seg L V (atN L K) 1000) := ⟨_, rfl⟩
                obtain ⟨SB, HSB⟩ : ∃ S, Hid (S = seg L V (atN L V) 1000) := ⟨_, rfl⟩
                rw [← HSA.out] at howna
                rw [← HSB.out] at hownb
                have HJN : Hid (S = SA ++ SB) := by
                  show S = SA ++ SB
                  rw [HSE.out, HSA.out, HSB.out]
                  exact HJ0_.out
                obtain ⟨Aa, ma, ca, rfl⟩ := howna.rows.form
                obtain ⟨Ab, mb, cb, rfl⟩ := hownb.rows.form
                have HMA : Hid (ma = SA.length) := howna.rows.cap.1
                have HMB : Hid (mb = SB.length) := hownb.rows.cap.1
                have hsum : (ma : Int) + (mb : Int) = (m : Int) := by
                  have h1 := congrArg List.length HJN.out
                  rw [List.length_append, ← HM.out, ← HMA.out, ← HMB.out] at h1
                  omega
                have hma : ma ≤ 200 := by omega
                have hmb : mb ≤ 200 := by omega
                have HA := hid (howna.rows.below hbb)
                have HB_ := hid hownb.rows
                have HG := hid ((HOLW.out.below HBAY.out).below hbb)
                have HBZ := hid (below_step HBY.out hbb)
                have HSHZ := hid ((hbb.block D (Nat.lt_of_lt_of_le (Array.getElem?_eq_some_iff.1 HSH.out).1 HBAY.out.size)).trans ((HBAY.out.block D (Array.getElem?_eq_some_iff.1 HSH.out).1).trans HSH.out))
                have heq := eq_two
                clear howna hownb hbb x0 x1 hn_
                go_wp2
                go_loopw [24] (fun i wr => ∃ k : Nat, k ≤ m ∧ i = .int .i64 k ∧ Below wz.heap.size wz wr) (fun i _ => m - (intOf i).toNat)
                case atStart => exact ⟨0, by omega, rfl, Below.refl _ _⟩
                case round =>
                  obtain ⟨k, hk, rfl, hb⟩ := hrel
                  have HB := hid hb
                  clear hb
                  by_cases hkm : k < m
                  · have hkmi : (k : Int) < m := by omega
                    obtain ⟨q, hq⟩ : ∃ q, S[k]? = some q := ⟨S[k]'(by have := HM.out; omega), List.getElem?_eq_getElem _⟩
                    obtain ⟨ad, hAG, q0, q1⟩ := (HG.out.below HB.out).pcell2 hq
                    subst hAG
                    have hj : (SA ++ SB)[k]? = some q := by rw [← HJN.out]; exact hq
                    by_cases hka : k < ma
                    · have hkai : (k : Int) < ma := by omega
                      have hkd : decide ((k : Int) < (ma : Int)) = true := decide_eq_true hkai
                      have hkd2 : decide ((ma : Int) ≤ (k : Int)) = false := decide_eq_false (by omega)
                      have hkn : decide (k < ma) = true := decide_eq_true hka
                      have hkn2 : decide (ma ≤ k) = false := decide_eq_false (by omega)
                      rw [List.getElem?_append_left (by rw [← HMA.out]; exact hka)] at hj
                      obtain ⟨ad2, rfl, r0, r1⟩ := (HA.out.below HB.out).pcell2 hj
                      clear hq hj hka
                      go_wp2
                      go_quiet (fail)
                      go_wp2
                      go_roundw
                      case rel => exact ⟨k + 1, by omega, by go_num, below_drewN' HB.out _⟩
                      case measure => simp [intOf]; omega
                    · have hkai : ¬ (k : Int) < ma := by omega
                      have hkai2 : (ma : Int) ≤ k := by omega
                      have hkd : decide ((k : Int) < (ma : Int)) = false := decide_eq_false hkai
                      have hkd2 : decide ((ma : Int) ≤ (k : Int)) = true := decide_eq_true hkai2
                      have hkn : decide (k < ma) = false := decide_eq_false hka
                      have hkn2 : decide (ma ≤ k) = true := decide_eq_true (by omega)
                      obtain ⟨k2, HK2⟩ : ∃ k2, Hid (k2 = k - ma) := ⟨_, rfl⟩
                      rw [List.getElem?_append_right (by rw [← HMA.out]; omega), ← HMA.out, ← HK2.out] at hj
                      obtain ⟨ad2, rfl, r0, r1⟩ := (HB_.out.below HB.out).pcell2 hj
                      have hw2 : IntKind.i64.wrap ((k : Int) - (ma : Int)) = (k2 : Int) := by
                        have := HK2.out
                        rw [show ((k : Int) - (ma : Int)) = (k2 : Int) by omega]
                        exact wrap_ok (by omega) (by omega)
                      have hk2 : k2 < mb := by have := HK2.out; omega
                      clear hq hj hka
                      go_wp2
                      go_quiet (fail)
                      go_wp2
                      go_roundw
                      case rel => exact ⟨k + 1, by omega, by go_num, below_drewN' HB.out _⟩
                      case measure => simp [intOf]; omega
                  · obtain rfl : k = m := by omega
                    have HBR := hid (below_step HBZ.out HB.out)
                    have HSH := hid ((HB.out.block D (Array.getElem?_eq_some_iff.1 HSHZ.out).1).trans HSHZ.out)
                    go_wp2_with fail
                    refine (awake5_yes _).mono ?_
                    rintro e w21 ⟨rfl, hb21⟩
                    have HB21 := hid (below_step HBR.out hb21)
                    have HK' := hid ((hb21.block D (Array.getElem?_eq_some_iff.1 HSH.out).1).trans HSH.out)
                    clear hb21
                    go_wp2
                    refine ⟨by simp, .inl ⟨_, _, rfl, run_takeDeferred HK'.out, ?_⟩⟩
                    refine ⟨.bool true, ?_, rfl, ?_⟩
                    · simp [results, Try.f13, go_sem]
                    · exact (below_step HB0.out HB21.out).trans (belowK_b (w := w) (Nat.le_refl _) _ D _ _ HDW.out HK'.out rfl rfl)
theorem whole_any (w : World) (v : Value) (os : List Cl) (K V mid : List Nat) (hv : Elems 3 cO w v os) (hos : ClsOk os) (bK : Byt K) (bV : Byt V) (bMid : Byt mid) (hml : mid.length ≤ 140737488355328) : Calls Try.prog 13 #[v, two2 K V, .string (str mid)] w (Yes w) := by
  cases hf : fewB os with
  | false => exact whole_many w v os K V mid hv (.inl hf)
  | true =>
    cases hs : shortB K V with
    | false => exact whole_many w v os K V mid hv (.inr ⟨hf, hs⟩)
    | true =>
      by_cases h0 : V = []
      · subst h0
        exact whole_okB w v os K mid hv bMid hml hos bK hf hs
      · by_cases h1 : V < K
        · exact whole_bad w v os K V mid hv hos bK bV hf hs h0 h1
        · exact whole_okC w v os K V mid hv bMid hml hos bK bV hf hs h0 h1
end Go.Proofs.Ytpckaglefmpkcaa
