/- BufferNil. -/
import Derived.Test.YtlnagdodnkhbmaaGreatV16
import Derived.Test.YtlnagdodnkhbmaaGreatTF
import Derived.Test.YtlnagdodnkhbmaaGreatTE
namespace Go.Proofs.YtlnagdodnkhbmaaGreat
open Go.RowKit Go.Maps Go.WideMaps Go.Shelf
set_option maxRecDepth 100000
attribute [local go_sem] Oper.semAt_some

theorem bwrites_nil (w : World) : Calls Tryz.prog 39 #[.pointer none] w (WrEnd w []) := by
  have hmf := hmf
  have hba : Below w.heap.size w (w.alloc (.cells #[.slice none 0 0] 116)) := (Below.refl _ _).alloc (Nat.le_refl _) _
  have HBA := hid hba
  have HNEW : Hid ((w.alloc (.cells #[.slice none 0 0] 116)).heap[w.heap.size]? = some (.cells #[.slice none 0 0] 116 (0, 0))) := heap_alloc_new w _
  clear hba
  go_enter Tryz.func39, Tryz.ntmps39
  go_wp2_with fail
  refine (sort_w (l := []) (OwnElems.nil 2 cE8 119 (w.alloc (.cells #[.slice none 0 0] 116)) (w.heap.size + 2)) (by simp) .nil (by simp)).mono ?_
  rintro e w6 ⟨rfl, d, hp, _, ho, hg⟩
  obtain rfl := hp.eq_nil
  have HG : Hid (Below (w.alloc (.cells #[.slice none 0 0] 116)).heap.size (w.alloc (.cells #[.slice none 0 0] 116)) w6) := (Below.refl _ _).grown hg (Nat.le_refl _) (fun k e => by cases e)
  have HO := hid ho
  clear hp ho hg
  go_wp2
  go_ret
  exact ⟨rfl, _, [], (HG.out.block _ (by simp)).trans HNEW.out, HO.out.rows, ToldW.nil _, below_step HBA.out HG.out, by simp, by simp [ownFoot, Value.ownBlock]⟩
theorem bfind_nil (w : World) (c lo hi m : Int) : Calls Tryz.prog 17 #[.pointer none, .int .i64 c, .int .i64 lo, .int .i64 hi, .int .i64 m] w fun e w' => e = .returned (.tuple #[.slice none 0 0, .int .i64 2]) ∧ Below w.heap.size w w' := by
  go_enter Tryz.func17, Tryz.ntmps17
  go_wp2
  refine wp_scope_straight ?_
  go_wp2
  dsimp only [Exit.noGoto]
  go_ret2
  exact ⟨rfl, Below.refl _ _⟩
/-- A function value that is not nil. -/
theorem run_eql_nil8 (gf : Nat) (lb : Array Value) (W : World) : (binOp .eql 79 (.func (.func gf) #[] lb) .nilFunc).run Tryz.prog W = .ok (.bool false) W := by
  have h : (Op.equalIn (9999 + 1) 79 (.func (.func gf) #[] lb) .nilFunc).run Tryz.prog W = .ok false W := by
    unfold Op.equalIn
    simp [run_underlying Tryz.underlying79]
  simp [binOp, Op.equal, Op.maxDepth, h]
set_option maxHeartbeats 4000000 in
theorem buffernil_any (w : World) (o : Op7) (a : Ask7) : Calls Tryz.prog 7 #[opV o, askV a] w (Yes w) := by
  have hmf := hmf
  unfold opV askV
  refine (callsIn_wide (n := 3)).1 ?_
  refine callsIn_of_wp_marks Tryz.func7 rfl trivial ?_ rfl
  simp only [Tryz.ntmps7, List.size_toArray, List.length_cons, List.length_nil, Nat.reduceAdd, Nat.reduceSub, Array.replicate_succ, Array.replicate_zero, List.push_toArray, List.append_toArray, List.nil_append, List.cons_append]
  refine wpIn_wide.2 ?_
  obtain ⟨wx, HWX⟩ : ∃ wx, Hid (wx = w.alloc (.cells #[.int .i64 o.k, .string (str o.key), .int .i64 o.row.a, .int .i64 o.row.b, .int .i64 o.row.c, .int .i64 o.row.d] 43)) := ⟨_, rfl⟩
  have hsx : wx.heap.size = w.heap.size + 1 := by rw [HWX.out, World.size_alloc]
  obtain ⟨wy, HWY⟩ : ∃ wy, Hid (wy = wx.alloc (.cells #[.int .i64 a.c, .int .i64 a.lo, .int .i64 a.hi, .int .i64 a.m] 52)) := ⟨_, rfl⟩
  have hsy : wy.heap.size = w.heap.size + 2 := by rw [HWY.out, World.size_alloc, hsx]
  obtain ⟨w0, HW0⟩ : ∃ w0, Hid (w0 = wy.alloc (.cells #[.bool false] 4)) := ⟨_, rfl⟩
  have HBX : Hid (Below w.heap.size w wx) := by rw [HWX.out]; exact (Below.refl _ _).alloc (Nat.le_refl _) _
  have HBY : Hid (Below wx.heap.size wx wy) := by rw [HWY.out]; exact (Below.refl _ _).alloc (Nat.le_refl _) _
  have HBZ : Hid (Below wy.heap.size wy w0) := by rw [HW0.out]; exact (Below.refl _ _).alloc (Nat.le_refl _) _
  have HB0 := hid (below_step (below_step HBX.out HBY.out) HBZ.out)
  have HOA : Hid (OpAt w0 ⟨w.heap.size, 0, none⟩ o) := by
    have : OpAt wx ⟨w.heap.size, 0, none⟩ o := by rw [HWX.out]; exact opAt_new w o
    exact (this.below HBY.out).below HBZ.out
  have HAA : Hid (AskAt w0 (w.heap.size + 1) a) := by
    have : AskAt wy wx.heap.size a := by rw [HWY.out]; exact AskAt.new wx a _
    rw [hsx] at this
    exact this.below HBZ.out
  have HRC : Hid (w0.cell? ⟨w.heap.size + 2, 0, none⟩ = some (.bool false) ∧ w0.frozen? ⟨w.heap.size + 2, 0, none⟩ = false) := by
    have := cellNew wy (.bool false) 4
    rw [hsy] at this
    rw [HW0.out]
    exact this
  have HE0 : Hid (((w.alloc (.cells #[.int .i64 o.k, .string (str o.key), .int .i64 o.row.a, .int .i64 o.row.b, .int .i64 o.row.c, .int .i64 o.row.d] 43)).alloc (.cells #[.int .i64 a.c, .int .i64 a.lo, .int .i64 a.hi, .int .i64 a.m] 52)).alloc (.cells #[.bool false] 4) = w0) := by
    show _ = _
    rw [HW0.out, HWY.out, HWX.out]
  clear hsx hsy
  go_wp2_with fail
  rw [HE0.out]
  refine (bwrites_nil _).mono ?_
  rintro e w1 ⟨rfl, v, cs, hbl, hel, htold, hb1, -, hfoot⟩
  obtain rfl : cs = [] := by have := htold.keys; simpa using this
  obtain ⟨A, cap, rfl⟩ := hel.slice
  have HB1 := hid hb1
  have hcell : w1.cell? ⟨w0.heap.size, 0, none⟩ = some (.slice A ([] : List CE).length cap) := by
    have := cell_of_row w1 w0.heap.size 0 _ _ _ hbl
    simpa using this
  have HGV := hid (writes_gives w1 A cap w0.heap.size [] hel hcell (by simp))
  have HGLT : Hid (∀ b, (b = w0.heap.size ∨ b ∈ ownFoot (.slice A ([] : List CE).length cap)) → b < w1.heap.size) := fun b hb => by
    rcases hb with rfl | hb
    · exact (Array.getElem?_eq_some_iff.1 hbl).1
    · exact (hfoot b hb).2
  have HEN := hid (enters_of Tryz.func65 (by kernel_rfl) rfl)
  have hnil := run_eql_nil8
  clear hbl hel htold hb1 hfoot hcell
  go_wp2
  refine (wpIn_wide (n := 3)).1 ?_
  refine range_own (gf := 65) (lb := #[.pointer (some ⟨w0.heap.size, 0, none⟩)]) rfl HEN.out HGV.out (w0 := w1) (Stay.refl _ _) (fun _ => rfl) (fun _ _ W => Below w1.heap.size w1 W) (fun _ _ _ _ => False) (fun s K A A' row hI hg hr K' hK' => hI.grown hg hI.size fun k e => (hr k e).1) (fun _ _ _ _ _ _ h => h.elim) (fun b => b = w0.heap.size ∨ b ∈ ownFoot (.slice A ([] : List CE).length cap)) (fun _ h => h) HGLT.out (Below.refl _ _) ?round ?done ?stop
  case round =>
    rintro lq pre x K W m _ _ _ _ hpre
    exact absurd hpre.length_le (by simp)
  case stop =>
    rintro D c pre K W _ h
    exact h.elim
  case done =>
    rintro D Kd W hB _ _ hD hK
    have HBW := hid (below_step HB1.out hB)
    have HK := hid hK
    have hD' : w.heap.size ≤ D := by have := HB0.out.size; have := HB1.out.size; omega
    have hDW : D < W.heap.size := (Array.getElem?_eq_some_iff.1 hK).1
    have HOW := hid (HOA.out.below HBW.out)
    have HAW := hid (HAA.out.below HBW.out)
    have HRW : Hid (W.cell? ⟨w.heap.size + 2, 0, none⟩ = some (.bool false) ∧ W.frozen? ⟨w.heap.size + 2, 0, none⟩ = false) := ⟨below_keep HBW.out _ _ HRC.out.1, (HBW.out.frozen (p := ⟨w.heap.size + 2, 0, none⟩) (blk_lt HRC.out.1)).trans HRC.out.2⟩
    clear hB hK
    obtain ⟨o0, o1, o2, o3, o4, o5⟩ := HOW.out
    dsimp only at o0 o1 o2 o3 o4 o5
    go_wp2_with fail
    refine (bdrop_nil _).mono ?_
    rintro e w2 ⟨⟨u, rfl⟩, hw⟩
    rw [hw]
    clear hw
    go_wp2_with fail
    refine (bnew_nil _).mono ?_
    rintro e w3 ⟨rfl, hw⟩
    rw [hw]
    clear hw
    go_wp2_with fail
    refine (bget_nil W (str o.key)).mono ?_
    rintro e w4 ⟨rfl, hb⟩
    dsimp only [rowv, rowc, zero4]
    have HBV4 := hid (below_step hb ((Below.refl w4.heap.size w4).alloc (Nat.le_refl _) (.cells #[.int .i64 0, .int .i64 0, .int .i64 0, .int .i64 0] 41)))
    have HL4 : Hid (Lies (w4.alloc (.cells #[.int .i64 0, .int .i64 0, .int .i64 0, .int .i64 0] 41)) w4.heap.size zero4) := Lies.new w4 zero4
    clear hb o0 o1 o2 o3 o4 o5
    obtain ⟨a0, a1, a2, a3⟩ := HAW.out.below HBV4.out
    obtain ⟨o0, o1, o2, o3, o4, o5⟩ := HOW.out.below HBV4.out
    dsimp only at o0 o1 o2 o3 o4 o5
    go_wp2_with fail
    obtain ⟨w4a, HW4⟩ : ∃ x, Hid (x = w4.alloc (.cells #[.int .i64 0, .int .i64 0, .int .i64 0, .int .i64 0] 41)) := ⟨_, rfl⟩
    rw [← HW4.out]
    rw [← HW4.out] at HBV4 HL4 o0 o1 o2 o3 o4 o5
    refine (bfind_nil w4a a.c a.lo a.hi a.m).mono ?_
    rintro e w5 ⟨rfl, hb5⟩
    have HBV5 := hid (below_step HBV4.out hb5)
    have HL5 := hid (HL4.out.below hb5)
    clear hb5 o0 o1 o2 o3 o4 o5 a0 a1 a2 a3
    obtain ⟨o0, o1, o2, o3, o4, o5⟩ := HOW.out.below HBV5.out
    dsimp only at o0 o1 o2 o3 o4 o5
    go_wp2_with fail
    refine (bput_nil w5 (str o.key) o.row).mono ?_
    rintro e w6 ⟨rfl, hb6⟩
    have HBV6 := hid (below_step HBV5.out hb6)
    have HL6 := hid (HL5.out.below hb6)
    clear hb6 o0 o1 o2 o3 o4 o5
    obtain ⟨o0, o1, o2, o3, o4, o5⟩ := HOW.out.below HBV6.out
    dsimp only at o0 o1 o2 o3 o4 o5
    go_wp2_with fail
    refine (bdel_nil w6 (str o.key)).mono ?_
    rintro e w7 ⟨rfl, hb7⟩
    have HBV7 := hid (below_step HBV6.out hb7)
    obtain ⟨x0, x1, x2, x3⟩ := (HL6.out.below hb7).four
    have heq := eq_rows zero4 zero4
    rw [decide_eq_true rfl] at heq
    dsimp only [rowc, zero4] at x0 x1 x2 x3 heq
    clear hb7 o0 o1 o2 o3 o4 o5
    go_wp2_with fail
    refine (blen_nil w7).mono ?_
    rintro e w8 ⟨rfl, hw⟩
    rw [hw]
    clear hw x0 x1 x2 x3 heq
    go_wp2_with fail
    refine (bapply_nil w7).mono ?_
    rintro e w9 ⟨rfl, hb9⟩
    have HBV9 := hid (below_step HBV7.out hb9)
    clear hb9
    go_wp2_with fail
    refine (awake8_any w9).mono ?_
    rintro e w12 ⟨rfl, hb12⟩
    have HBV := hid (below_step HBV9.out hb12)
    clear hb12
    have hc := below_keep HBV.out _ _ HRW.out.1
    have hf := (HBV.out.frozen (p := ⟨w.heap.size + 2, 0, none⟩) (blk_lt HRW.out.1)).trans HRW.out.2
    have HK' : Hid ((w12.setCell ⟨w.heap.size + 2, 0, none⟩ (.bool true)).heap[D]? = some (.deferred (some []))) := (KeepsOthers.setCell w12 ⟨w.heap.size + 2, 0, none⟩ (.bool true)).same D _ ((HBV.out.block D hDW).trans HK.out) rfl
    have hc5 := cell_kept (World.cell?_setCell_same' w12 ⟨w.heap.size + 2, 0, none⟩ (.bool true) (by rw [hc]; rfl)) (grownBy_putObj' _ D (.deferred none)) (fun r e => by cases e; exact ⟨_, HK'.out, rfl⟩)
    go_wp2
    refine ⟨by simp, .inl ⟨_, _, rfl, run_takeDeferred HK'.out, ?_⟩⟩
    refine ⟨.bool true, ?_, rfl, ?_⟩
    · simp [results, Tryz.f7, go_sem, hc5]
    · have hbw : Below w.heap.size w w12 := below_step (below_step HB0.out HBW.out) HBV.out
      exact (hbw.setCell (p := ⟨w.heap.size + 2, 0, none⟩) (by show w.heap.size ≤ w.heap.size + 2; omega) _).trans (belowK_b (w := w) (Nat.le_refl _) _ D _ _ hD' HK'.out rfl rfl)
end Go.Proofs.YtlnagdodnkhbmaaGreat
