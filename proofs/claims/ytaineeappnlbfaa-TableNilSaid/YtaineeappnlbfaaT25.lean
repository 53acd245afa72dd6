/- TableNil. -/
import Derived.Test.YtaineeappnlbfaaT26
namespace Go.Proofs.Ytaineeappnlbfaa
open Go.RowKit Go.Shelf
set_option maxRecDepth 100000
attribute [local go_sem] Oper.semAt_some
theorem tcheck_nil (w : World) : Calls Try.prog 20 #[.pointer none] w fun e w' => e = .returned (.bool false) ∧ Below w.heap.size w w' := by
  have c1 : ((w.alloc (.cells #[.pointer none] 24)).alloc (.cells #[.bool false] 4)).cell? ⟨w.heap.size + 1, 0, none⟩ = some (.bool false) := by
    have := (cellNew (w.alloc (.cells #[.pointer none] 24)) (.bool false) 4).1; rwa [World.size_alloc] at this
  go_enter Try.func20, Try.ntmps20
  go_wp2
  exact bodyPost_ret (v := .bool false) (by simp [results, Try.results20, go_sem, c1]) rfl ⟨rfl, ((Below.refl _ w).alloc (Nat.le_refl _) _).alloc (by simp) _⟩
theorem tcopy_nil (w : World) : Calls Try.prog 25 #[.pointer none] w fun e w' => e = .returned (.pointer none) ∧ w' = w := by
  go_enter Try.func25, Try.ntmps25
  go_wp2
  go_ret
  exact ⟨rfl, rfl⟩
/-- A loop over nothing; a block that holds what the call answers. -/
def ResI (w : World) (B : Nat) (_ : List KR) (_ : Bl) (W : World) : Prop :=
  (W.cell? ⟨B, 0, none⟩ = some (.bool false) ∧ W.frozen? ⟨B, 0, none⟩ = false) ∧ Below w.heap.size w W
theorem resI_abide {w : World} {B C : Nat} (hlt : B < C) (hC : w.heap.size ≤ C) : Abide C (ResI w B) := by
  rintro s K A A' row ⟨⟨h1, h1f⟩, hB⟩ hg hr K' hK'
  have hrow : some B ≠ row := fun e => by have := (hr B e.symm).1; omega
  have hb : A'.heap[B]? = A.heap[B]? := hg.block B (blk_lt h1) hrow
  exact ⟨⟨(World.cell?_of_block hb).trans h1, (World.frozen?_of_block hb).trans h1f⟩, hB.grown hg hB.size fun k e => by have := (hr k e).1; omega⟩
theorem tsame_nil (w : World) (q : Option Addr) (hq : ∀ W, Below w.heap.size w W → Calls Try.prog 16 #[.pointer q] W fun e w' => e = .returned (.int .i64 0) ∧ w' = W) :
    Calls Try.prog 26 #[.pointer none, .pointer q] w fun e w' => e = .returned (.bool true) ∧ Below w.heap.size w w' := by
  have HQ := hid hq
  clear hq
  have hmf := hmf
  refine (callsIn_wide (n := 3)).1 ?_
  refine callsIn_of_wp_marks Try.func26 rfl trivial ?_ rfl
  simp only [Try.ntmps26, List.size_toArray, List.length_cons, List.length_nil, Nat.reduceAdd, Nat.reduceSub, Array.replicate_succ, Array.replicate_zero, List.push_toArray, List.append_toArray, List.nil_append, List.cons_append]
  refine wpIn_wide.2 ?_
  obtain ⟨w0, HW0⟩ : ∃ w0, Hid (w0 = (w.alloc (.cells #[.pointer q] 24)).alloc (.cells #[.bool false] 4)) := ⟨_, rfl⟩
  have HB0 : Hid (Below w.heap.size w w0) := by rw [HW0.out]; exact ((Below.refl _ w).alloc (Nat.le_refl _) _).alloc (by simp) _
  have HCF : Hid (w0.cell? ⟨w.heap.size, 0, none⟩ = some (.pointer q) ∧ w0.cell? ⟨w.heap.size + 1, 0, none⟩ = some (.bool false) ∧ w0.frozen? ⟨w.heap.size + 1, 0, none⟩ = false) := by
    rw [HW0.out]
    refine ⟨cellPast _ (cellNew w (.pointer q) 24).1, ?_, ?_⟩
    · have := (cellNew (w.alloc (.cells #[.pointer q] 24)) (.bool false) 4).1; rwa [World.size_alloc] at this
    · have := (cellNew (w.alloc (.cells #[.pointer q] 24)) (.bool false) 4).2; rwa [World.size_alloc] at this
  go_wp2
  rw [← HW0.out]
  obtain ⟨cq, c1, f1⟩ := HCF.out
  go_quiet (first | (go_at_call 16; first | exact Calls.quiet_of_same (tlen_nil _) | exact Calls.quiet_of_same (HQ.out _ (below_drewN' HB0.out _))))
  obtain ⟨w0', HW0'⟩ : ∃ w0', Hid (w0' = w0.drewN nq) := ⟨_, rfl⟩
  have HB0' : Hid (Below w0.heap.size w0 w0') := by rw [HW0'.out]; exact below_drewN' (Below.refl _ _) _
  rw [← HW0'.out]
  have HCF' : Hid (w0'.cell? ⟨w.heap.size + 1, 0, none⟩ = some (.bool false) ∧ w0'.frozen? ⟨w.heap.size + 1, 0, none⟩ = false) := ⟨below_keep HB0'.out _ _ HCF.out.2.1, (HB0'.out.frozen (p := ⟨w.heap.size + 1, 0, none⟩) (blk_lt HCF.out.2.1)).trans HCF.out.2.2⟩
  clear cq c1 f1
  go_wp2_with fail
  refine (tall_nil _).mono ?_
  rintro e w1 ⟨gf, lb, G, rfl, hb1, hw1, -⟩
  have HB1 := hid (below_step (below_step HB0.out HB0'.out) hb1)
  have c1 : w1.cell? ⟨w.heap.size + 1, 0, none⟩ = some (.bool false) := below_keep hb1 _ _ HCF'.out.1
  have f1 : w1.frozen? ⟨w.heap.size + 1, 0, none⟩ = false := (hb1.frozen (p := ⟨w.heap.size + 1, 0, none⟩) (blk_lt HCF'.out.1)).trans HCF'.out.2
  have HC1 := hid c1
  have HF1 := hid f1
  have HAB := hid (resI_abide (w := w) (B := w.heap.size + 1) (C := w1.heap.size) (blk_lt c1) HB1.out.size)
  clear hb1
  go_wp2
  refine (wpIn_wide (n := 3)).1 ?_
  refine range_own (gf := gf) (lb := lb) rfl hw1.en hw1.gives (w0 := w1) (Stay.refl _ _) (fun _ => rfl) (ResI w (w.heap.size + 1)) (fun _ _ _ _ => False) HAB.out (fun _ _ _ _ _ _ h => h.elim) G (fun _ h => h) hw1.lt ⟨⟨HC1.out, HF1.out⟩, HB1.out⟩ ?round ?done ?stop
  case round =>
    rintro lq pre x K W m _ _ _ _ hpre
    exact absurd hpre.length_le (by simp)
  case stop =>
    rintro D c pre K W _ h
    exact h.elim
  case done =>
    rintro D Kd W ⟨⟨h1, h1f⟩, hB⟩ _ _ hD hK
    have HBW := hid hB
    have HK := hid hK
    have HC1 := hid h1
    have HF1 := hid h1f
    have hD' : w.heap.size ≤ D := by have := HB1.out.size; omega
    clear hB hK
    have HK' : Hid ((W.setCell ⟨w.heap.size + 1, 0, none⟩ (.bool true)).heap[D]? = some (.deferred (some []))) := (KeepsOthers.setCell W ⟨w.heap.size + 1, 0, none⟩ (.bool true)).same D _ HK.out rfl
    have hc5 := cell_kept (World.cell?_setCell_same' W ⟨w.heap.size + 1, 0, none⟩ (.bool true) (by rw [h1]; rfl)) (grownBy_putObj' _ D (.deferred none)) (fun r e => by cases e; exact ⟨_, HK'.out, rfl⟩)
    go_wp2
    refine ⟨by simp, .inl ⟨_, _, rfl, run_takeDeferred HK'.out, ?_⟩⟩
    refine ⟨.bool true, ?_, rfl, ?_⟩
    · simp [results, Try.f26, go_sem, hc5]
    · exact (HBW.out.setCell (p := ⟨w.heap.size + 1, 0, none⟩) (by show w.heap.size ≤ w.heap.size + 1; omega) _).trans (belowK_b (w := w) (Nat.le_refl _) _ D _ _ hD' HK'.out rfl rfl)
set_option maxHeartbeats 1600000 in
theorem tablenil_any (w : World) (o : Op7) (a : Ask7) : Calls Try.prog 8 #[opV o, askV a] w (Yes w) := by
  have hmf := hmf
  unfold opV askV
  refine (callsIn_wide (n := 3)).1 ?_
  refine callsIn_of_wp_marks Try.func8 rfl trivial ?_ rfl
  simp only [Try.ntmps8, List.size_toArray, List.length_cons, List.length_nil, Nat.reduceAdd, Nat.reduceSub, Array.replicate_succ, Array.replicate_zero, List.push_toArray, List.append_toArray, List.nil_append, List.cons_append]
  refine wpIn_wide.2 ?_
  obtain ⟨wx, HWX⟩ : ∃ wx, Hid (wx = w.alloc (.cells #[.int .i64 o.k, .string (str o.key), .int .i64 o.row.a, .int .i64 o.row.b, .int .i64 o.row.c, .int .i64 o.row.d] 39)) := ⟨_, rfl⟩
  have hsx : wx.heap.size = w.heap.size + 1 := by rw [HWX.out, World.size_alloc]
  obtain ⟨wy, HWY⟩ : ∃ wy, Hid (wy = wx.alloc (.cells #[.int .i64 a.c, .int .i64 a.lo, .int .i64 a.hi, .int .i64 a.m] 48)) := ⟨_, rfl⟩
  have hsy : wy.heap.size = w.heap.size + 2 := by rw [HWY.out, World.size_alloc, hsx]
  obtain ⟨w0, HW0⟩ : ∃ w0, Hid (w0 = wy.alloc (.cells #[.bool false] 4)) := ⟨_, rfl⟩
  have HBX : Hid (Below w.heap.size w wx) := by rw [HWX.out]; exact (Below.refl _ _).alloc (Nat.le_refl _) _
  have HBY : Hid (Below wx.heap.size wx wy) := by rw [HWY.out]; exact (Below.refl _ _).alloc (Nat.le_refl _) _
  have HBZ : Hid (Below wy.heap.size wy w0) := by rw [HW0.out]; exact (Below.refl _ _).alloc (Nat.le_refl _) _
  have HB0 := hid (below_step (below_step HBX.out HBY.out) HBZ.out)
  have HOA : Hid (OpAt w0 ⟨w.heap.size, 0, none⟩ o) := by
    have : OpAt wx ⟨w.heap.size, 0, none⟩ o := by rw [HWX.out]; exact opAt_new w o
    exact (this.below HBY.out).below HBZ.out
  have HAA : Hid (AskAt w0 (w.heap.size + 1) a) := by
    have : AskAt wy wx.heap.size a := by rw [HWY.out]; exact AskAt.new wx a _
    rw [hsx] at this
    exact this.below HBZ.out
  have HRC : Hid (w0.cell? ⟨w.heap.size + 2, 0, none⟩ = some (.bool false) ∧ w0.frozen? ⟨w.heap.size + 2, 0, none⟩ = false) := by
    have := cellNew wy (.bool false) 4
    rw [hsy] at this
    rw [HW0.out]
    exact this
  have HE0 : Hid (((w.alloc (.cells #[.int .i64 o.k, .string (str o.key), .int .i64 o.row.a, .int .i64 o.row.b, .int .i64 o.row.c, .int .i64 o.row.d] 39)).alloc (.cells #[.int .i64 a.c, .int .i64 a.lo, .int .i64 a.hi, .int .i64 a.m] 48)).alloc (.cells #[.bool false] 4) = w0) := by
    show _ = _
    rw [HW0.out, HWY.out, HWX.out]
  clear hsx hsy
  go_wp2_with fail
  rw [HE0.out]
  refine (tall_nil _).mono ?_
  rintro e w1 ⟨gf, lb, G, rfl, hb1, hw1, -⟩
  have HB1 := hid hb1
  have hnil := run_eql_nil7
  clear hb1
  go_wp2
  refine (wpIn_wide (n := 3)).1 ?_
  refine range_own (gf := gf) (lb := lb) rfl hw1.en hw1.gives (w0 := w1) (Stay.refl _ _) (fun _ => rfl) (fun _ _ W => Below w1.heap.size w1 W) (fun _ _ _ _ => False) (fun s K A A' row hI hg hr K' hK' => hI.grown hg hI.size fun k e => (hr k e).1) (fun _ _ _ _ _ _ h => h.elim) G (fun _ h => h) hw1.lt (Below.refl _ _) ?round ?done ?stop
  case round =>
    rintro lq pre x K W m _ _ _ _ hpre
    exact absurd hpre.length_le (by simp)
  case stop =>
    rintro D c pre K W _ h
    exact h.elim
  case done =>
    rintro D Kd W hB _ _ hD hK
    have HBW := hid (below_step HB1.out hB)
    have HK := hid hK
    have hD' : w.heap.size ≤ D := by have := HB0.out.size; have := HB1.out.size; omega
    have hDW : D < W.heap.size := (Array.getElem?_eq_some_iff.1 hK).1
    have HOW := hid (HOA.out.below HBW.out)
    have HAW := hid (HAA.out.below HBW.out)
    have HRW : Hid (W.cell? ⟨w.heap.size + 2, 0, none⟩ = some (.bool false) ∧ W.frozen? ⟨w.heap.size + 2, 0, none⟩ = false) := ⟨below_keep HBW.out _ _ HRC.out.1, (HBW.out.frozen (p := ⟨w.heap.size + 2, 0, none⟩) (blk_lt HRC.out.1)).trans HRC.out.2⟩
    clear hB hK
    have HBS : Hid (Below W.heap.size W W) := Below.refl _ _
    obtain ⟨o0, o1, o2, o3, o4, o5⟩ := HOW.out
    dsimp only at o0 o1 o2 o3 o4 o5
    go_wp2_with fail
    refine (tput_nil W (str o.key) o.row).mono ?_
    rintro e w2 ⟨rfl, hb⟩
    dsimp only [rowv, rowc, zero4]
    have HBN0 := hid (below_step hb ((Below.refl w2.heap.size w2).alloc (Nat.le_refl _) (.cells #[.int .i64 0, .int .i64 0, .int .i64 0, .int .i64 0] 37)))
    have HBV0 := hid (below_step HBS.out HBN0.out)
    have HL0 : Hid (Lies (w2.alloc (.cells #[.int .i64 0, .int .i64 0, .int .i64 0, .int .i64 0] 37)) w2.heap.size zero4) := Lies.new w2 zero4
    clear hb o0 o1 o2 o3 o4 o5
    obtain ⟨o0, o1, o2, o3, o4, o5⟩ := HOW.out.below HBV0.out
    dsimp only at o0 o1 o2 o3 o4 o5
    go_wp2_with fail
    obtain ⟨w2a, HW0⟩ : ∃ x, Hid (x = w2.alloc (.cells #[.int .i64 0, .int .i64 0, .int .i64 0, .int .i64 0] 37)) := ⟨_, rfl⟩
    rw [← HW0.out]
    rw [← HW0.out] at HBV0 HL0
    have HBS := HBV0
    refine (tdel_nil w2a (str o.key)).mono ?_
    rintro e w3 ⟨rfl, hb⟩
    dsimp only [rowv, rowc, zero4]
    have HBN1 := hid (below_step hb ((Below.refl w3.heap.size w3).alloc (Nat.le_refl _) (.cells #[.int .i64 0, .int .i64 0, .int .i64 0, .int .i64 0] 37)))
    have HBV1 := hid (below_step HBS.out HBN1.out)
    have HL1 : Hid (Lies (w3.alloc (.cells #[.int .i64 0, .int .i64 0, .int .i64 0, .int .i64 0] 37)) w3.heap.size zero4) := Lies.new w3 zero4
    have HL0 := hid (HL0.out.below HBN1.out)
    clear hb o0 o1 o2 o3 o4 o5
    obtain ⟨o0, o1, o2, o3, o4, o5⟩ := HOW.out.below HBV1.out
    dsimp only at o0 o1 o2 o3 o4 o5
    go_wp2_with fail
    obtain ⟨w3a, HW1⟩ : ∃ x, Hid (x = w3.alloc (.cells #[.int .i64 0, .int .i64 0, .int .i64 0, .int .i64 0] 37)) := ⟨_, rfl⟩
    rw [← HW1.out]
    rw [← HW1.out] at HBV1 HL0 HL1
    have HBS := HBV1
    refine (tget_nil w3a (str o.key)).mono ?_
    rintro e w4 ⟨rfl, hb⟩
    dsimp only [rowv, rowc, zero4]
    have HBN2 := hid (below_step hb ((Below.refl w4.heap.size w4).alloc (Nat.le_refl _) (.cells #[.int .i64 0, .int .i64 0, .int .i64 0, .int .i64 0] 37)))
    have HBV2 := hid (below_step HBS.out HBN2.out)
    have HL2 : Hid (Lies (w4.alloc (.cells #[.int .i64 0, .int .i64 0, .int .i64 0, .int .i64 0] 37)) w4.heap.size zero4) := Lies.new w4 zero4
    have HL0 := hid (HL0.out.below HBN2.out)
    have HL1 := hid (HL1.out.below HBN2.out)
    clear hb o0 o1 o2 o3 o4 o5
    obtain ⟨o0, o1, o2, o3⟩ := HAW.out.below HBV2.out
    go_wp2_with fail
    obtain ⟨w4a, HW2⟩ : ∃ x, Hid (x = w4.alloc (.cells #[.int .i64 0, .int .i64 0, .int .i64 0, .int .i64 0] 37)) := ⟨_, rfl⟩
    rw [← HW2.out]
    rw [← HW2.out] at HBV2 HL0 HL1 HL2
    have HBS := HBV2
    refine (tfind_nil w4a a.c a.lo a.hi a.m).mono ?_
    rintro e w5 ⟨rfl, hb5⟩
    have HB5 := hid hb5
    have HBV5 := hid (below_step HBS.out hb5)
    clear hb5 o0 o1 o2 o3
    go_wp2_with fail
    refine (tnew2 w5 1 (by omega) (by omega)).mono ?_
    rintro e w6 ⟨rfl, hb6, p6, Q6, ht6, _, _⟩
    have HT6 := hid ht6
    have HBV6 := hid (below_step HBV5.out hb6)
    have HB6 := hid (below_step HB5.out hb6)
    clear ht6 hb6
    obtain ⟨x0, x1, x2, x3⟩ := (HL0.out.below HB6.out).four
    obtain ⟨y0, y1, y2, y3⟩ := (HL1.out.below HB6.out).four
    obtain ⟨z0, z1, z2, z3⟩ := (HL2.out.below HB6.out).four
    have heq := eq_rows zero4 zero4
    rw [decide_eq_true rfl] at heq
    dsimp only [rowc, zero4] at x0 x1 x2 x3 y0 y1 y2 y3 z0 z1 z2 z3 heq
    go_wp2_with fail
    refine (tlen_nil _).mono ?_
    rintro e w7 ⟨rfl, rfl⟩
    go_wp2_with fail
    refine (tmost_nil _).mono ?_
    rintro e w6 ⟨rfl, rfl⟩
    clear x0 x1 x2 x3 y0 y1 y2 y3 z0 z1 z2 z3 heq
    go_wp2_with fail
    refine (tcheck_nil _).mono ?_
    rintro e w8 ⟨rfl, hb8⟩
    have HT8 := hid (HT6.out.below hb8)
    have HBV8 := hid (below_step HBV6.out hb8)
    clear hb8
    go_wp2_with fail
    refine (tcopy_nil _).mono ?_
    rintro e w9 ⟨rfl, rfl⟩
    go_wp2_with fail
    refine (tsame_nil _ none (fun W _ => tlen_nil W)).mono ?_
    rintro e w10 ⟨rfl, hb10⟩
    have HT10 := hid (HT8.out.below hb10)
    have HBV10 := hid (below_step HBV8.out hb10)
    clear hb10
    go_wp2_with fail
    refine (tsame_nil _ (some ⟨w5.heap.size, 0, none⟩) (fun W hb => by have := tlen (HT10.out.below hb); simpa using this)).mono ?_
    rintro e w11 ⟨rfl, hb11⟩
    have HBV11 := hid (below_step HBV10.out hb11)
    clear hb11
    go_wp2_with fail
    refine (awake_any _).mono ?_
    rintro e w12 ⟨rfl, hb12⟩
    have HBV := hid (below_step HBV11.out hb12)
    clear hb12
    have hc := below_keep HBV.out _ _ HRW.out.1
    have hf := (HBV.out.frozen (p := ⟨w.heap.size + 2, 0, none⟩) (blk_lt HRW.out.1)).trans HRW.out.2
    have HK' : Hid ((w12.setCell ⟨w.heap.size + 2, 0, none⟩ (.bool true)).heap[D]? = some (.deferred (some []))) := (KeepsOthers.setCell w12 ⟨w.heap.size + 2, 0, none⟩ (.bool true)).same D _ ((HBV.out.block D hDW).trans HK.out) rfl
    have hc5 := cell_kept (World.cell?_setCell_same' w12 ⟨w.heap.size + 2, 0, none⟩ (.bool true) (by rw [hc]; rfl)) (grownBy_putObj' _ D (.deferred none)) (fun r e => by cases e; exact ⟨_, HK'.out, rfl⟩)
    go_wp2
    refine ⟨by simp, .inl ⟨_, _, rfl, run_takeDeferred HK'.out, ?_⟩⟩
    refine ⟨.bool true, ?_, rfl, ?_⟩
    · simp [results, Try.f8, go_sem, hc5]
    · have hbw : Below w.heap.size w w12 := below_step (below_step HB0.out HBW.out) HBV.out
      exact (hbw.setCell (p := ⟨w.heap.size + 2, 0, none⟩) (by show w.heap.size ≤ w.heap.size + 2; omega) _).trans (belowK_b (w := w) (Nat.le_refl _) _ D _ _ hD' HK'.out rfl rfl)
end Go.Proofs.Ytaineeappnlbfaa
