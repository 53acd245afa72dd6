/- TreeOrders. -/
import Derived.Test.YtkckilemfkajeaaW10
namespace Go.Proofs.Ytkckilemfkajeaa
open Go.RowKit Go.Shelf
set_option maxRecDepth 100000
attribute [local go_sem] Oper.semAt_some

set_option maxHeartbeats 8000000 in
theorem orders_ok (w : World) (xo yo : Nat) (v : Value) (os : List Cl) (h21 : 2 ≤ xo) (h161 : xo ≤ 16) (h22 : 2 ≤ yo) (h162 : yo ≤ 16) (hv : Elems 3 cO w v os) (hos : ClsOk os) (hf : fewB os = true) : Calls Try.prog 7 #[twoI (xo : Int) (yo : Int), v] w (Yes w) := by
  obtain ⟨x, HX⟩ : ∃ x : Int, Hid (x = (xo : Int)) := ⟨_, rfl⟩
  obtain ⟨y, HY⟩ : ∃ y : Int, Hid (y = (yo : Int)) := ⟨_, rfl⟩
  rw [← HX.out, ← HY.out]
  obtain ⟨wB, HW⟩ : ∃ W, Hid (W = (w.alloc (.cells #[.int .i64 x, .int .i64 y] 54)).alloc (.cells #[.bool false] 4)) := ⟨_, rfl⟩
  obtain ⟨x0, x1, c0, f0, b0⟩ := boxres w x y
  rw [← HW.out] at x0 x1 c0 f0 b0
  have X0 := hid x0
  have X1 := hid x1
  have C0 := hid c0
  have F0 := hid f0
  have HB0 := hid b0
  clear x0 x1 c0 f0 b0
  rw [HX.out] at X0 HW ⊢
  rw [HY.out] at X1 HW ⊢
  obtain ⟨A, cap, rfl⟩ := hv.slice
  obtain ⟨hfew, hlen⟩ := fewB_yes hf
  obtain ⟨len, HLEN⟩ : ∃ len, Hid (len = os.length) := ⟨_, rfl⟩
  have hl200 : len ≤ 200 := by rw [HLEN.out]; exact hlen
  have HV := hid (hv.below HB0.out)
  have HOS := hid hos
  have HFEW := hid hfew
  have HF := hid hf
  rw [← HLEN.out] at HV ⊢
  clear hv hos hfew hf hlen
  unfold twoI
  refine (callsIn_wide (n := 3)).1 ?_
  refine callsIn_of_wp_marks Try.func7 rfl trivial ?_ rfl
  simp only [Try.ntmps7, List.size_toArray, List.length_cons, List.length_nil, Nat.reduceAdd, Nat.reduceSub, Array.replicate_succ, Array.replicate_zero, List.push_toArray, List.append_toArray, List.nil_append, List.cons_append]
  refine wpIn_wide.2 ?_
  go_wp2_with fail
  rw [← HW.out]
  have x0 := X0.out
  have x1 := X1.out
  refine (tree_new_in _ xo h21 h161).mono ?_
  rintro e w1 ⟨t1, P1, rfl, hb1, ha1, ht1, hp1⟩
  have HT1 := hid ht1
  have HA1 := hid ha1
  have HP1 := hid hp1
  have HB1 := hid hb1
  have HC1 := hid hb1
  clear ht1 ha1 hb1 hp1 x0 x1
  have x0 := below_keep HB1.out _ _ X0.out
  have x1 := below_keep HB1.out _ _ X1.out
  go_wp2_with fail
  refine (tree_new_in _ yo h22 h162).mono ?_
  rintro e w2 ⟨t2, P2, rfl, hb2, ha2, ht2, hp2⟩
  have HT2 := hid ht2
  have HA2 := hid ha2
  have HP2 := hid hp2
  have HB2 := hid (below_step HB1.out hb2)
  have HC2 := hid hb2
  clear ht2 ha2 hb2 hp2 x0 x1
  have x0 := below_keep HB2.out _ _ X0.out
  have x1 := below_keep HB2.out _ _ X1.out
  go_wp2_with fail
  refine (few_any _ _ os (HV.out.below HB2.out)).mono ?_
  rw [HF.out]
  rintro e w3 ⟨rfl, rfl⟩
  have HTW := hid (tw_new HT1.out HB1.out HA1.out HT2.out HC2.out HA2.out HP2.out)
  clear x0 x1
  go_wp2
  go_loopw [9] (fun i wr => ∃ k : Nat, k ≤ len ∧ i = .int .i64 k ∧ ∃ Pa Pb, Tw wB wr Pa Pb t1 t2 xo yo (runL [] (os.take k)) (runL [] (os.take k))) (fun i _ => len - (intOf i).toNat)
  case atStart => exact ⟨0, by omega, rfl, P1, P2, HTW.out⟩
  case round =>
    obtain ⟨k, hk, rfl, Pa, Pb, htw⟩ := hrel
    have HS := hid htw
    by_cases hlt : k < len
    · have hlti : (k : Int) < len := by omega
      obtain ⟨op, hop⟩ : ∃ op, os[k]? = some op := ⟨os[k]'(by have := HLEN.out; omega), List.getElem?_eq_getElem _⟩
      obtain ⟨ad, rfl, hat⟩ := HV.out.opAt hop
      have HAT := hid hat
      have HN := hid (runL_take [] hop)
      have hmem := List.mem_of_getElem? hop
      have HOK := hid (HOS.out.ok op hmem)
      have hk1 := (HFEW.out op hmem).1
      have hk2 := (HFEW.out op hmem).2
      have HRL : Hid ((runL [] (os.take k)).length ≤ 900) := by
        have := runL_len (os.take k) []
        rw [List.length_take] at this
        show _ ≤ _
        simp at this; omega
      obtain ⟨l, HL⟩ : ∃ l, Hid (l = runL [] (os.take k)) := ⟨_, rfl⟩
      rw [← HL.out] at HS HN HRL
      clear htw hop hmem hat
      obtain ⟨hc0, hc1, hc2⟩ := HAT.out.below HS.out.since
      obtain ⟨ok, okey, oval⟩ := op
      by_cases h0 : ok = 0
      · subst h0
        have HST : Hid (stepL l ⟨0, okey, oval⟩ = putN l okey oval) := rfl
        rw [HST.out] at HN
        obtain ⟨A', HA⟩ : ∃ A, Hid (A = str (putA l okey oval)) := ⟨_, rfl⟩
        obtain ⟨B', HB⟩ : ∃ B, Hid (B = putW l okey oval) := ⟨_, rfl⟩
        obtain ⟨E', HE⟩ : ∃ E, Hid (E = putE okey oval) := ⟨_, rfl⟩
        go_wp2
        clear hc0
        go_region_held3 (fun W' => W'.cell? { block := (ad.add (k * 3)).block, off := (ad.add (k * 3)).off + 1, spot := none } = some (.string (str okey)) ∧ W'.cell? { block := (ad.add (k * 3)).block, off := (ad.add (k * 3)).off + 2, spot := none } = some (.string (str oval))) (first | exact ⟨hc1, hc2⟩ | exact (HAT.out.below HS2.out.since).2)
          (first | (go_at_call 28; ((with_reducible refine ((HS.out.below_ (Below.refl _ wr).drew).ta.put (Nat.le_trans HRL.out (by decide)) okey oval HOK.out.key HOK.out.val (Nat.le_trans hk1 (by decide))).mono ?_); rw [← HA.out, ← HB.out, ← HE.out]; rintro e w2 ⟨rfl, hd⟩; have HS2 := hid ((HS.out.below_ (Below.refl _ wr).drew).turnA hd); clear hd)))
        clear hc1 hc2
        obtain ⟨hc0, hc1, hc2⟩ := HAT.out.below HS2.out.since
        go_wp2
        clear hc0
        go_region_held3 (fun W' => W'.cell? { block := (ad.add (k * 3)).block, off := (ad.add (k * 3)).off + 1, spot := none } = some (.string (str okey)) ∧ W'.cell? { block := (ad.add (k * 3)).block, off := (ad.add (k * 3)).off + 2, spot := none } = some (.string (str oval))) (first | exact ⟨hc1, hc2⟩ | exact (HAT.out.below HS3.out.since).2)
          (first | (go_at_call 28; ((with_reducible refine ((HS2.out.below_ (Below.refl _ w2).drew).tb.put (Nat.le_trans HRL.out (by decide)) okey oval HOK.out.key HOK.out.val (Nat.le_trans hk1 (by decide))).mono ?_); rw [← HA.out, ← HB.out, ← HE.out]; rintro e w3 ⟨rfl, hd⟩; have HS3 := hid ((HS2.out.below_ (Below.refl _ w2).drew).turnB hd); clear hd)))
        clear hc1 hc2
        go_wp2
        go_roundw
        case rel => exact ⟨k + 1, by omega, by go_num, _, _, by rw [HN.out]; exact HS3.out⟩
        case measure => simp [intOf]; omega
      · by_cases h1 : ok = 1
        · subst h1
          have HST : Hid (stepL l ⟨1, okey, oval⟩ = delN l okey) := rfl
          rw [HST.out] at HN
          obtain ⟨A', HA⟩ : ∃ A, Hid (A = str (delA l okey)) := ⟨_, rfl⟩
          obtain ⟨E', HE⟩ : ∃ E, Hid (E = getE l okey) := ⟨_, rfl⟩
          go_wp2_with fail
          refine (HS.out.ta.del (Nat.le_trans HRL.out (by decide)) okey HOK.out.key (Nat.le_trans hk1 (by decide))).mono ?_
          rw [← HA.out, ← HE.out]
          rintro e w2 ⟨rfl, hd⟩
          have HS2 := hid (HS.out.turnA hd)
          clear hd hc0 hc1 hc2
          obtain ⟨hc0, hc1, hc2⟩ := HAT.out.below HS2.out.since
          go_wp2_with fail
          refine (HS2.out.tb.del (Nat.le_trans HRL.out (by decide)) okey HOK.out.key (Nat.le_trans hk1 (by decide))).mono ?_
          rw [← HA.out, ← HE.out]
          rintro e w3 ⟨rfl, hd⟩
          have HS3 := hid (HS2.out.turnB hd)
          clear hd hc0 hc1 hc2
          go_wp2
          go_roundw
          case rel => exact ⟨k + 1, by omega, by go_num, _, _, by rw [HN.out]; exact HS3.out⟩
          case measure => simp [intOf]; omega
        · have HST : Hid (stepL l ⟨ok, okey, oval⟩ = l) := by show _ = _; unfold stepL; rw [if_neg h0, if_neg h1]
          rw [HST.out] at HN
          go_wp2
          go_roundw
          case rel => exact ⟨k + 1, by omega, by go_num, _, _, by rw [HN.out]; exact HS.out⟩
          case measure => simp [intOf]; omega
    · obtain rfl : k = len := by omega
      have hall : os.take k = os := List.take_of_length_le (by have := HLEN.out; omega)
      rw [hall] at HS
      obtain ⟨L, HLE⟩ : ∃ L, Hid (L = runL [] os) := ⟨_, rfl⟩
      rw [← HLE.out] at HS
      have hLL : L.length ≤ 200 := by
        have := runL_len os []
        have := HLEN.out
        rw [HLE.out]
        simp at *; omega
      clear htw hall
      obtain ⟨wa, rfl⟩ : ∃ wa, wa = wr := ⟨_, rfl⟩
      go_wp2_with fail
      obtain ⟨wl, HWL⟩ : ∃ W, Hid (W = (wa.alloc (.cells #[.slice none 0 0] 32)).alloc (.cells #[.pointer (some ⟨wa.heap.size, 0, none⟩)] 29)) := ⟨_, rfl⟩
      have HBL : Hid (Below wa.heap.size wa wl) := by rw [HWL.out]; exact ((Below.refl _ wa).alloc (Nat.le_refl _) _).alloc (by simp) _
      have RCL : Hid (wl.cell? ⟨wa.heap.size + 1, 0, none⟩ = some (.pointer (some ⟨wa.heap.size, 0, none⟩))) := by
        rw [HWL.out]
        have := cell_of_row _ _ 0 _ _ _ (heap_alloc_new (wa.alloc (.cells #[.slice none 0 0] 32)) (.cells #[.pointer (some ⟨wa.heap.size, 0, none⟩)] 29))
        rwa [World.size_alloc] at this
      have ONEL : Hid (One wl wa.heap.size 32 (.slice none 0 0)) := by rw [HWL.out]; exact (One.new wa _ _).alloc _
      rw [← HWL.out]
      refine (HS.out.ta.below HBL.out).all.mono ?_
      rintro e w3 ⟨gf, lb, G, rfl, hb3, hw3, hG3⟩
      have HB3 := hid hb3
      have RC3 := hid (below_keep hb3 _ _ RCL.out)
      have ONE3 : Hid (One w3 wa.heap.size 32 (.slice none 0 0)) := ONEL.out.keep (hb3.block _ ONEL.out.lt)
      have HPL : Hid (wa.heap.size < w3.heap.size) := ONE3.out.lt
      have HNE : Hid (wa.heap.size + 1 ≠ wa.heap.size) := by show _ ≠ _; omega
      have HAB := hid (collI_abide (w3 := w3) HPL.out)
      have hnG : ¬ G wa.heap.size := fun h => by
        rcases hG3 _ h with h | h
        · have := HS.out.ta.under _ h; omega
        · have := ONEL.out.lt; omega
      have hnil := run_eql_nil
      clear hb3
      go_wp2
      clear hnil
      refine (wpIn_wide (n := 3)).1 ?_
      refine range_own (gf := gf) (lb := lb) rfl hw3.en hw3.gives (w0 := w3) (Stay.refl _ _) (fun _ => rfl) (CollI w3 wa.heap.size) (fun _ _ _ _ => False) HAB.out (fun _ _ _ _ _ _ h => h.elim) G (fun _ h => h) hw3.lt
        ⟨Chg.refl _ _, _, ONE3.out, OwnElems.nil _ _ _ _ _, hnG, by simp [ownFoot, Value.ownBlock]⟩ ?round ?done ?stop
      case stop =>
        rintro D c pre K W _ h
        exact h.elim
      case round =>
        rintro lq pre x K W m hI hKW hKl hlq hpre
        unfold encP
        gi_wp2
        refine ⟨Stay.refl _ _, fun W2 hg2 => ?_⟩
        obtain ⟨hc2, v, hone, hown, hkp, hkr⟩ := HAB.out pre K W W2 (some lq) hI hg2 (fun r e => by injection e with e; subst e; exact ⟨hlq, hKl⟩) K fun b h => .inl h
        have HW2 : Hid (W.heap.size ≤ W2.heap.size) := hg2.size
        have hprl : pre.length < L.length := by have := hpre.length_le; simp at this; omega
        clear hI hg2
        obtain ⟨Av, nv, cv, rfl⟩ := hown.rows.form

        have HONE := hid hone
        have HOWN := hid hown
        have HC2 := hid hc2
        have HKK := hid hkr
        have HKP := hid hkp
        have q0 := chg_cell hc2 RC3.out (fun h => by simp at h)
        have qp := hone.cell
        have qf := hone.frozen
        have HSN : Hid (∀ X, Below W2.heap.size W2 X → X.cell? ⟨wa.heap.size + 1, 0, none⟩ = some (.pointer (some ⟨wa.heap.size, 0, none⟩)) ∧ X.frozen? ⟨wa.heap.size, 0, none⟩ = false) := fun X hb =>
          ⟨below_keep hb _ _ q0, (hb.frozen (p := ⟨wa.heap.size, 0, none⟩) (blk_lt qp)).trans qf⟩
        have HQP : Hid (∀ X, Below W2.heap.size W2 X → X.cell? ⟨wa.heap.size, 0, none⟩ = some (.slice Av nv cv)) := fun X hb => below_keep hb _ _ qp
        have HOWD : Hid (OwnElems 2 cP 59 (W2.alloc (.cells #[.string (str x.1), .string (str x.2)] 59)).drew w3.heap.size (.slice Av nv cv) pre) := hown.keep fun b hb => Below.heap_alloc W2 _ b (hown.lt b hb).2
        have HROWX : Hid (Elems 2 cP (W2.alloc (.cells #[.string (str x.1), .string (str x.2)] 59)).drew (.slice (some ⟨W2.heap.size, 0, none⟩) 1 1) [x]) := rows_new W2.drew 2 cP cP_len x _
        obtain ⟨ip, hip, hzp, hsp, hyp⟩ := info_parts info_pair
        clear hc2 hone hown hkr hkp
        gi_wp2
        clear q0 qp qf
        refine region_in_round 13 (fun X => X.cell? ⟨wa.heap.size + 1, 0, none⟩ = some (.pointer (some ⟨wa.heap.size, 0, none⟩)) ∧ X.frozen? ⟨wa.heap.size, 0, none⟩ = false) rfl (by kernel_rfl) (by kernel_rfl) (fun _ _ h => h) (HSN.out _ (below_drew1 (Below.refl _ _))) fun hS => ?_
        refine wpAnyH_take (i := 0) (v := ?_) rfl (by kernel_rfl) (by kernel_rfl) (by kernel_rfl) (fun _ _ _ h => h) (Or.inl ⟨by rfl, ?hy0⟩) (by assumption) ?rs0
        case hy0 => (intro X hSX; (try dsimp only at hSX); go_simp <;> with_reducible rfl)
        try simp only [Act.put, List.setIfInBounds_toArray, List.set_cons_zero, List.set_cons_succ]
        refine wpAnyH_take (i := 1) (v := ?_) rfl (by kernel_rfl) (by kernel_rfl) (by kernel_rfl) (fun _ _ _ h => h) (Or.inl ⟨by rfl, ?hy1⟩) (by assumption) ?rs1
        case hy1 => (intro X hSX; (try dsimp only at hSX); go_simp <;> with_reducible rfl)
        try simp only [Act.put, List.setIfInBounds_toArray, List.set_cons_zero, List.set_cons_succ]
        refine wpAnyH_take (i := 2) (v := ?_) rfl (by kernel_rfl) (by kernel_rfl) (by kernel_rfl) (fun _ _ _ h => h) (Or.inl ⟨by rfl, ?hy2⟩) (by assumption) ?rs2
        case hy2 => (intro X hSX; (try dsimp only at hSX); go_simp <;> with_reducible rfl)
        try simp only [Act.put, List.setIfInBounds_toArray, List.set_cons_zero, List.set_cons_succ]
        refine wpAnyH_take (i := 3) (v := ?_) rfl (by kernel_rfl) (by kernel_rfl) (by kernel_rfl) (fun _ _ _ h => h) (Or.inl ⟨by rfl, ?hy3⟩) (by assumption) ?rs3
        case hy3 => (intro X hSX; (try dsimp only at hSX); go_simp <;> with_reducible rfl)
        try simp only [Act.put, List.setIfInBounds_toArray, List.set_cons_zero, List.set_cons_succ]
        refine wpAnyH_take (i := 5) (v := ?_) rfl (by kernel_rfl) (by kernel_rfl) (by kernel_rfl) (fun _ _ _ h => h) (Or.inl ⟨by rfl, ?hy5⟩) (by assumption) ?rs5
        case hy5 => (intro X hSX; (try dsimp only at hSX); go_simp <;> with_reducible rfl)
        try simp only [Act.put, List.setIfInBounds_toArray, List.set_cons_zero, List.set_cons_succ]
        refine wpAnyH_take (i := 6) (v := ?_) rfl (by kernel_rfl) (by kernel_rfl) (by kernel_rfl) (fun _ _ _ h => h) (Or.inl ⟨by rfl, ?hy6⟩) (by assumption) ?rs6
        case hy6 => (intro X hSX; (try dsimp only at hSX); go_simp <;> with_reducible rfl)
        try simp only [Act.put, List.setIfInBounds_toArray, List.set_cons_zero, List.set_cons_succ]
        refine wpAnyH_take (i := 7) (v := ?_) rfl (by kernel_rfl) (by kernel_rfl) (by kernel_rfl) (fun _ _ _ h => h) (Or.inl ⟨by rfl, ?hy7⟩) (by assumption) ?rs7
        case hy7 => (intro X hSX; (try dsimp only at hSX); go_simp <;> with_reducible rfl)
        try simp only [Act.put, List.setIfInBounds_toArray, List.set_cons_zero, List.set_cons_succ]
        refine wpAnyH_ready (rs := [4, 8]) (by kernel_rfl) (by simp) ?_
        refine AllReadyH.cons rfl (fun KK hKK => ?_) (AllReadyH.cons rfl (fun KK hKK => ?_) AllReadyH.nil)
        · have qx := HQP.out W2.drew (Below.refl _ _).drew
          go_simp
          refine hKK.out _ _ (HSN.out _ (by repeat (with_reducible (first | assumption | exact Below.refl _ _ | refine below_drew1 ?_ | refine below_drewN_ ?_ | refine below_alloc' ?_ _)))) (fun hH => ?_)
          clear hKK KK qx
          try simp only [Act.put, List.setIfInBounds_toArray, List.set_cons_zero, List.set_cons_succ]
          refine wpAnyH_ready (rs := [8]) (by kernel_rfl) (by simp) ?_
          refine AllReadyH.cons rfl (fun KK hKK => ?_) AllReadyH.nil
          go_simp
          refine hKK.out _ _ (HSN.out _ (by repeat (with_reducible (first | assumption | exact Below.refl _ _ | refine below_drew1 ?_ | refine below_drewN_ ?_ | refine below_alloc' ?_ _)))) (fun hH => ?_)
          clear hKK KK
          try simp only [Act.put, List.setIfInBounds_toArray, List.set_cons_zero, List.set_cons_succ]
          refine wpAnyH_ready (rs := [9]) (by kernel_rfl) (by simp) ?_
          refine AllReadyH.cons rfl (fun KK hKK => ?_) AllReadyH.nil
          refine step_append_rows rfl (.tmp 171) (.tmp 175) 30 rfl w3.heap.size 59 ip _ 2 32 Try.underlying30 hip hzp hsp hyp rfl (by omega) cP_one (.slice Av nv cv) pre rfl HOWD.out (.slice (some ⟨W2.heap.size, 0, none⟩) 1 1) [x] rfl HROWX.out (by simp [maxLen]; omega) (by simp; omega) (by have := HC2.out.size; simp; omega) ?_
          intro v2 w4 ho4 hg4 hf4
          obtain ⟨A2, n2, cc2, rfl⟩ := ho4.rows.form
          have HO4 := hid ho4
          have HG4 := hid hg4
          have HF4 := hid hf4
          have HLN4 : Hid (n2 = pre.length + 1) := by show _ = _; have := ho4.rows.cap.1; simpa using this
          have hrow : ∀ b, b < w3.heap.size → b < W2.heap.size → w4.heap[b]? = W2.heap[b]? := fun b hb hl => (hg4.block b (by simp; omega) fun e => by have := (HOWN.out.lt b (mem_ownFoot.2 e.symm)).1; omega).trans (Below.heap_alloc W2.drew _ b hl)
          have HROW := hid hrow
          have HONE4 : Hid (One w4 wa.heap.size 32 (.slice Av nv cv)) := HONE.out.keep (hrow _ HPL.out HONE.out.lt)
          have HQ4 : Hid (w4.cell? ⟨wa.heap.size + 1, 0, none⟩ = some (.pointer (some ⟨wa.heap.size, 0, none⟩))) := (World.cell?_of_block (hrow _ (blk_lt RC3.out) (Nat.lt_of_lt_of_le (blk_lt RC3.out) HC2.out.size))).trans (chg_cell HC2.out RC3.out (fun h => by simp at h))
          have qp4 := HONE4.out.cell
          have qf4 := HONE4.out.frozen
          clear ho4 hg4 hf4 hrow
          refine hKK.out _ _ ⟨HQ4.out, qf4⟩ (fun hH2 => ?_)
          clear hKK KK
          try simp only [Act.put, List.setIfInBounds_toArray, List.set_cons_zero, List.set_cons_succ]
          refine wpAnyH_take (i := 10) (v := ?_) rfl (by kernel_rfl) (by kernel_rfl) (by kernel_rfl) (fun _ _ _ h => h) (Or.inl ⟨by rfl, ?hy10a⟩) (by assumption) ?rs10a
          case hy10a => (intro X hSX; (try dsimp only at hSX); go_simp <;> with_reducible rfl)
          try simp only [Act.put, List.setIfInBounds_toArray, List.set_cons_zero, List.set_cons_succ]
          refine wpAnyH_take (i := 11) (v := ?_) rfl (by kernel_rfl) (by kernel_rfl) (by kernel_rfl) (fun _ _ _ h => h) (Or.inl ⟨by rfl, ?hy11a⟩) (by assumption) ?rs11a
          case hy11a => (intro X hSX; (try dsimp only at hSX); go_simp <;> with_reducible rfl)
          try simp only [Act.put, List.setIfInBounds_toArray, List.set_cons_zero, List.set_cons_succ]
          refine wpAnyH_ready (rs := [12]) (by kernel_rfl) (by simp) ?_
          refine AllReadyH.cons rfl (fun KK hKK => ?_) AllReadyH.nil
          go_simp
          have HONE5 : Hid (One (w4.setCell ⟨wa.heap.size, 0, none⟩ (.slice A2 n2 cc2)) wa.heap.size 32 (.slice A2 n2 cc2)) := HONE4.out.set _
          have HQ5 : Hid ((w4.setCell ⟨wa.heap.size, 0, none⟩ (.slice A2 n2 cc2)).cell? ⟨wa.heap.size + 1, 0, none⟩ = some (.pointer (some ⟨wa.heap.size, 0, none⟩))) := cellFar (b := ⟨wa.heap.size, 0, none⟩) HQ4.out HNE.out _
          refine hKK.out _ _ ⟨HQ5.out, HONE5.out.frozen⟩ (fun hH3 => ?_)
          clear hKK KK
          refine wpAnyH_done (by kernel_rfl) ?_ _
          have q5 := HQ5.out
          have qp5 := HONE5.out.cell
          have hni : (n2 : Int) ≤ 1000 := by have := HLN4.out; omega
          clear qp4 qf4 hH2 hH3
          gi_wp2
          dsimp only [postB]
          have hne : wa.heap.size ∉ ownFoot (.slice A2 n2 cc2) := fun h => by have := (HO4.out.lt _ h).1; have := HPL.out; omega
          have hW4 : W2.heap.size ≤ w4.heap.size := by have := HG4.out.size; simp at this; omega
          refine ⟨⟨by simp [World.setCell]; omega, fun b hb => ?_⟩, ?_, _, HONE5.out, HO4.out.keep fun b hb => Below.heap_setCell _ _ _ _ (fun e => hne (by rw [e] at hb; exact hb)), HKP.out, fun b hb hKb => ?_⟩
          · have hbl : b < W2.heap.size := Nat.lt_of_lt_of_le (hKW b hb) HW2.out
            have h1 : b ≠ wa.heap.size := fun e => HKP.out (by rw [← e]; exact hb)
            exact (Below.heap_setCell _ _ _ _ h1).trans ((HG4.out.block b (by simp; omega) fun e => HKK.out b (mem_ownFoot.2 e.symm) hb).trans (Below.heap_alloc W2.drew _ b hbl))
          · have hs3 := HC2.out.size
            refine ⟨HG4.out.os.trans HC2.out.os, HG4.out.tape.trans HC2.out.tape, HG4.out.output.trans HC2.out.output, by simp [World.setCell]; omega, fun k hk hn => ?_, fun k hk => .inl hk⟩
            exact (Below.heap_setCell _ _ _ _ (fun e => hn (by rw [e]; simp))).trans ((HROW.out k hk (by omega)).trans (HC2.out.block k hk hn))
          · rcases HF4.out b hb with h | h
            · exact HKK.out b h hKb
            · have h1 := hKW b hKb
              have h2 := HW2.out
              simp at h
              omega
        · go_simp
          refine hKK.out _ _ (HSN.out _ (by repeat (with_reducible (first | assumption | exact Below.refl _ _ | refine below_drew1 ?_ | refine below_drewN_ ?_ | refine below_alloc' ?_ _)))) (fun hH => ?_)
          clear hKK KK
          try simp only [Act.put, List.setIfInBounds_toArray, List.set_cons_zero, List.set_cons_succ]
          have qx := HQP.out (W2.alloc (.cells #[.string (str x.1), .string (str x.2)] 59)).drew (((Below.refl _ _).alloc (Nat.le_refl _) _).drew)
          refine wpAnyH_ready (rs := [4]) (by kernel_rfl) (by simp) ?_
          refine AllReadyH.cons rfl (fun KK hKK => ?_) AllReadyH.nil
          go_simp
          refine hKK.out _ _ (HSN.out _ (by repeat (with_reducible (first | assumption | exact Below.refl _ _ | refine below_drew1 ?_ | refine below_drewN_ ?_ | refine below_alloc' ?_ _)))) (fun hH => ?_)
          clear hKK KK qx
          try simp only [Act.put, List.setIfInBounds_toArray, List.set_cons_zero, List.set_cons_succ]
          refine wpAnyH_ready (rs := [9]) (by kernel_rfl) (by simp) ?_
          refine AllReadyH.cons rfl (fun KK hKK => ?_) AllReadyH.nil
          refine step_append_rows rfl (.tmp 171) (.tmp 175) 30 rfl w3.heap.size 59 ip _ 2 32 Try.underlying30 hip hzp hsp hyp rfl (by omega) cP_one (.slice Av nv cv) pre rfl HOWD.out (.slice (some ⟨W2.heap.size, 0, none⟩) 1 1) [x] rfl HROWX.out (by simp [maxLen]; omega) (by simp; omega) (by have := HC2.out.size; simp; omega) ?_
          intro v2 w4 ho4 hg4 hf4
          obtain ⟨A2, n2, cc2, rfl⟩ := ho4.rows.form
          have HO4 := hid ho4
          have HG4 := hid hg4
          have HF4 := hid hf4
          have HLN4 : Hid (n2 = pre.length + 1) := by show _ = _; have := ho4.rows.cap.1; simpa using this
          have hrow : ∀ b, b < w3.heap.size → b < W2.heap.size → w4.heap[b]? = W2.heap[b]? := fun b hb hl => (hg4.block b (by simp; omega) fun e => by have := (HOWN.out.lt b (mem_ownFoot.2 e.symm)).1; omega).trans (Below.heap_alloc W2.drew _ b hl)
          have HROW := hid hrow
          have HONE4 : Hid (One w4 wa.heap.size 32 (.slice Av nv cv)) := HONE.out.keep (hrow _ HPL.out HONE.out.lt)
          have HQ4 : Hid (w4.cell? ⟨wa.heap.size + 1, 0, none⟩ = some (.pointer (some ⟨wa.heap.size, 0, none⟩))) := (World.cell?_of_block (hrow _ (blk_lt RC3.out) (Nat.lt_of_lt_of_le (blk_lt RC3.out) HC2.out.size))).trans (chg_cell HC2.out RC3.out (fun h => by simp at h))
          have qp4 := HONE4.out.cell
          have qf4 := HONE4.out.frozen
          clear ho4 hg4 hf4 hrow
          refine hKK.out _ _ ⟨HQ4.out, qf4⟩ (fun hH2 => ?_)
          clear hKK KK
          try simp only [Act.put, List.setIfInBounds_toArray, List.set_cons_zero, List.set_cons_succ]
          refine wpAnyH_take (i := 10) (v := ?_) rfl (by kernel_rfl) (by kernel_rfl) (by kernel_rfl) (fun _ _ _ h => h) (Or.inl ⟨by rfl, ?hy10b⟩) (by assumption) ?rs10b
          case hy10b => (intro X hSX; (try dsimp only at hSX); go_simp <;> with_reducible rfl)
          try simp only [Act.put, List.setIfInBounds_toArray, List.set_cons_zero, List.set_cons_succ]
          refine wpAnyH_take (i := 11) (v := ?_) rfl (by kernel_rfl) (by kernel_rfl) (by kernel_rfl) (fun _ _ _ h => h) (Or.inl ⟨by rfl, ?hy11b⟩) (by assumption) ?rs11b
          case hy11b => (intro X hSX; (try dsimp only at hSX); go_simp <;> with_reducible rfl)
          try simp only [Act.put, List.setIfInBounds_toArray, List.set_cons_zero, List.set_cons_succ]
          refine wpAnyH_ready (rs := [12]) (by kernel_rfl) (by simp) ?_
          refine AllReadyH.cons rfl (fun KK hKK => ?_) AllReadyH.nil
          go_simp
          have HONE5 : Hid (One (w4.setCell ⟨wa.heap.size, 0, none⟩ (.slice A2 n2 cc2)) wa.heap.size 32 (.slice A2 n2 cc2)) := HONE4.out.set _
          have HQ5 : Hid ((w4.setCell ⟨wa.heap.size, 0, none⟩ (.slice A2 n2 cc2)).cell? ⟨wa.heap.size + 1, 0, none⟩ = some (.pointer (some ⟨wa.heap.size, 0, none⟩))) := cellFar (b := ⟨wa.heap.size, 0, none⟩) HQ4.out HNE.out _
          refine hKK.out _ _ ⟨HQ5.out, HONE5.out.frozen⟩ (fun hH3 => ?_)
          clear hKK KK
          refine wpAnyH_done (by kernel_rfl) ?_ _
          have q5 := HQ5.out
          have qp5 := HONE5.out.cell
          have hni : (n2 : Int) ≤ 1000 := by have := HLN4.out; omega
          clear qp4 qf4 hH2 hH3
          gi_wp2
          dsimp only [postB]
          have hne : wa.heap.size ∉ ownFoot (.slice A2 n2 cc2) := fun h => by have := (HO4.out.lt _ h).1; have := HPL.out; omega
          have hW4 : W2.heap.size ≤ w4.heap.size := by have := HG4.out.size; simp at this; omega
          refine ⟨⟨by simp [World.setCell]; omega, fun b hb => ?_⟩, ?_, _, HONE5.out, HO4.out.keep fun b hb => Below.heap_setCell _ _ _ _ (fun e => hne (by rw [e] at hb; exact hb)), HKP.out, fun b hb hKb => ?_⟩
          · have hbl : b < W2.heap.size := Nat.lt_of_lt_of_le (hKW b hb) HW2.out
            have h1 : b ≠ wa.heap.size := fun e => HKP.out (by rw [← e]; exact hb)
            exact (Below.heap_setCell _ _ _ _ h1).trans ((HG4.out.block b (by simp; omega) fun e => HKK.out b (mem_ownFoot.2 e.symm) hb).trans (Below.heap_alloc W2.drew _ b hbl))
          · have hs3 := HC2.out.size
            refine ⟨HG4.out.os.trans HC2.out.os, HG4.out.tape.trans HC2.out.tape, HG4.out.output.trans HC2.out.output, by simp [World.setCell]; omega, fun k hk hn => ?_, fun k hk => .inl hk⟩
            exact (Below.heap_setCell _ _ _ _ (fun e => hn (by rw [e]; simp))).trans ((HROW.out k hk (by omega)).trans (HC2.out.block k hk hn))
          · rcases HF4.out b hb with h | h
            · exact HKK.out b h hKb
            · have h1 := hKW b hKb
              have h2 := HW2.out
              simp at h
              omega
      case done =>
        rintro D Kd W ⟨hcw, v, hone, hown, _, hkr⟩ _ hKD hD hK
        have HCW := hid hcw
        have HSH := hid hK
        have HDD := hid hD
        have HBW3 := hid (below_step (below_step HS.out.since HBL.out) HB3.out)
        have hwaB : wB.heap.size ≤ wa.heap.size := HS.out.since.size
        have HRL : Hid (RList W (wa.heap.size :: ownFoot v) wa.heap.size L) := ⟨v, hone, hown.rows, rfl, fun b hb => (hown.lt b hb).2, fun h => by have := (hown.lt _ h).1; have := HPL.out; omega⟩
        have htl := HS.out.tb.lt
        have HTB := hid (((HS.out.tb.below HBL.out).below HB3.out).chg hcw (by simp; omega) (fun b hb h => by simp at hb; subst hb; have := HS.out.tb.under _ h; omega))
        have HWW : Hid (Below wB.heap.size wB W) := (((Chg.of_below (F := []) HBW3.out).less (K := [wa.heap.size]) (fun k hk => .inr (by simp at hk; omega))).trans hcw).below (fun _ h => by cases h) (Nat.le_refl _)
        have rcW := chg_cell hcw RC3.out (fun h => by simp at h)
        obtain ⟨Av, nv, cv, rfl⟩ := hown.rows.form
        have HNV : Hid (nv = L.length) := hown.rows.cap.1
        have qpW := hone.cell
        clear hcw hone hown hkr hKD hD hK
        go_wp2_with fail
        refine (same_at HTB.out HRL.out (by omega)).mono ?_
        rintro e w20 ⟨rfl, hb20⟩
        go_wp2_with fail
        refine (awake_yes _).mono ?_
        rintro e w21 ⟨rfl, hb21⟩
        have HB21 := hid (below_step (below_step HWW.out hb20) hb21)
        have HBW21 := hid (below_step hb20 hb21)
        have c21 := below_keep HB21.out _ _ C0.out
        have f21 := (HB21.out.frozen (p := ⟨w.heap.size + 1, 0, none⟩) (blk_lt C0.out)).trans F0.out
        clear hb20 hb21
        go_wp2
        have HK' : Hid ((w21.setCell ⟨w.heap.size + 1, 0, none⟩ (.bool true)).heap[D]? = some (.deferred (some []))) := (KeepsOthers.setCell w21 ⟨w.heap.size + 1, 0, none⟩ (.bool true)).same D _ ((HBW21.out.block D (Array.getElem?_eq_some_iff.1 HSH.out).1).trans HSH.out) rfl
        have hc5 := cell_kept (World.cell?_setCell_same' w21 ⟨w.heap.size + 1, 0, none⟩ (.bool true) (by rw [c21]; rfl)) (grownBy_putObj' _ D (.deferred none)) (fun r e => by cases e; exact ⟨_, HK'.out, rfl⟩)
        refine ⟨by simp, .inl ⟨_, _, rfl, run_takeDeferred HK'.out, ?_⟩⟩
        refine ⟨.bool true, ?_, rfl, ?_⟩
        · simp [results, Try.f7, go_sem, hc5]
        · exact ((below_step HB0.out HB21.out).setCell (p := ⟨w.heap.size + 1, 0, none⟩) (by show w.heap.size ≤ w.heap.size + 1; omega) _).trans (belowK_b (w := w) (Nat.le_refl _) _ D _ _ (by have := HDD.out; have := HBW3.out.size; have := HB0.out.size; omega) HK'.out rfl rfl)
theorem orders_any (w : World) (x y : Int) (v : Value) (os : List Cl) (hv : Elems 3 cO w v os) (hos : ClsOk os) : Calls Try.prog 7 #[twoI x y, v] w (Yes w) := by
  by_cases hx : x < 2 ∨ 16 < x
  · by_cases hy : y < 2 ∨ 16 < y
    · exact orders_bb w x y v hx hy
    · obtain ⟨yo, rfl⟩ : ∃ o : Nat, y = (o : Int) := ⟨y.toNat, by omega⟩
      exact orders_bg w x yo v hx (by omega) (by omega)
  · obtain ⟨xo, rfl⟩ : ∃ o : Nat, x = (o : Int) := ⟨x.toNat, by omega⟩
    by_cases hy : y < 2 ∨ 16 < y
    · exact orders_gb w xo y v (by omega) (by omega) hy
    · obtain ⟨yo, rfl⟩ : ∃ o : Nat, y = (o : Int) := ⟨y.toNat, by omega⟩
      cases hf : fewB os with
      | false => exact orders_many w xo yo v os (by omega) (by omega) (by omega) (by omega) hv hf
      | true => exact orders_ok w xo yo v os (by omega) (by omega) (by omega) (by omega) hv hos hf
end Go.Proofs.Ytkckilemfkajeaa
