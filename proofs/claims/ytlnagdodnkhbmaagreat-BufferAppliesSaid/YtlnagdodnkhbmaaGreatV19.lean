/- law08: few; written of nothing. -/
import Derived.Test.YtlnagdodnkhbmaaGreatV17
namespace Go.Proofs.YtlnagdodnkhbmaaGreat
open Go.RowKit Go.Maps Go.WideMaps Go.Shelf
set_option maxRecDepth 100000
attribute [local go_sem] Oper.semAt_some

theorem few8_any (w : World) (v1 v2 : Value) (l1 l2 : List Op7) (h1 : Elems 6 cOp w v1 l1) (h2 : Elems 6 cOp w v2 l2) :
    Calls Tryz.prog 10 #[.agg #[v1, v2]] w fun e w' => e = .returned (.bool (few7 l1 && few7 l2)) ∧ Below w.heap.size w w' := by
  obtain ⟨A1, cp1, rfl⟩ := h1.slice
  obtain ⟨A2, cp2, rfl⟩ := h2.slice
  obtain ⟨n1, HN1⟩ : ∃ n, Hid (n = l1.length) := ⟨_, rfl⟩
  obtain ⟨n2, HN2⟩ : ∃ n, Hid (n = l2.length) := ⟨_, rfl⟩
  rw [← HN1.out] at h1 ⊢
  rw [← HN2.out] at h2 ⊢
  obtain ⟨wa, HWA⟩ : ∃ W, Hid (W = w.alloc (.cells #[.slice A1 n1 cp1, .slice A2 n2 cp2] 24)) := ⟨_, rfl⟩
  have HBA : Hid (Below w.heap.size w wa) := by rw [HWA.out]; exact (Below.refl _ _).alloc (Nat.le_refl _) _
  have HR : Hid (wa.heap[w.heap.size]? = some (.cells #[.slice A1 n1 cp1, .slice A2 n2 cp2] 24 (0, 0))) := by rw [HWA.out]; exact heap_alloc_new w _
  have H1 := hid (h1.below HBA.out)
  have H2 := hid (h2.below HBA.out)
  have q0 : wa.cell? ⟨w.heap.size, 0, none⟩ = some (.slice A1 n1 cp1) := cell_of_row wa w.heap.size 0 _ _ _ HR.out
  have q1 : wa.cell? ⟨w.heap.size, 1, none⟩ = some (.slice A2 n2 cp2) := cell_of_row wa w.heap.size 1 _ _ _ HR.out
  clear h1 h2
  cases hf : few7 l1 with
  | false =>
    go_enter Tryz.func10, Tryz.ntmps10
    go_wp2_with fail
    rw [← HWA.out]
    refine (few7_any wa _ l1 H1.out).mono ?_
    rw [hf]
    intro e w1 hh
    obtain ⟨rfl, hw⟩ := hh
    rw [← hw]
    clear hw
    go_wp2
    go_ret
    exact ⟨rfl, HBA.out⟩
  | true =>
    go_enter Tryz.func10, Tryz.ntmps10
    go_wp2_with fail
    rw [← HWA.out]
    refine (few7_any wa _ l1 H1.out).mono ?_
    rw [hf]
    intro e w1 hh
    obtain ⟨rfl, hw⟩ := hh
    rw [← hw]
    clear hw
    go_wp2_with fail
    refine (few7_any wa _ l2 H2.out).mono ?_
    intro e w1 hh
    obtain ⟨rfl, hw⟩ := hh
    rw [← hw]
    clear hw
    go_wp2
    go_ret
    exact ⟨rfl, HBA.out⟩
set_option maxHeartbeats 2000000 in
theorem written_none {w : World} {B T m : Nat} (h : Buf w B T m []) : Calls Tryz.prog 20 #[.pointer (some ⟨B, 0, none⟩), .slice none 0 0] w (Yes w) := by
  have hmf := hmf
  refine (callsIn_wide (n := 3)).1 ?_
  refine callsIn_of_wp_marks Tryz.func20 rfl trivial ?_ rfl
  simp only [Tryz.ntmps20, List.size_toArray, List.length_cons, List.length_nil, Nat.reduceAdd, Nat.reduceSub, Array.replicate_succ, Array.replicate_zero, List.push_toArray, List.append_toArray, List.nil_append, List.cons_append]
  refine wpIn_wide.2 ?_
  obtain ⟨wx, HWX⟩ : ∃ wx, Hid (wx = w.alloc (.cells #[.slice none 0 0] 48)) := ⟨_, rfl⟩
  have hsx : wx.heap.size = w.heap.size + 1 := by rw [HWX.out, World.size_alloc]
  obtain ⟨w0, HW0⟩ : ∃ w0, Hid (w0 = wx.alloc (.cells #[.bool false] 4)) := ⟨_, rfl⟩
  have HBX : Hid (Below w.heap.size w wx) := by rw [HWX.out]; exact (Below.refl _ _).alloc (Nat.le_refl _) _
  have HBZ : Hid (Below wx.heap.size wx w0) := by rw [HW0.out]; exact (Below.refl _ _).alloc (Nat.le_refl _) _
  have HB0 := hid (below_step HBX.out HBZ.out)
  have HLC : Hid (w0.cell? ⟨w.heap.size, 0, none⟩ = some (.slice none 0 0)) := by
    have : wx.cell? ⟨w.heap.size, 0, none⟩ = some (.slice none 0 0) := by rw [HWX.out]; exact (cellNew w (.slice none 0 0) _).1
    exact below_keep HBZ.out _ _ this
  have HRC : Hid (w0.cell? ⟨w.heap.size + 1, 0, none⟩ = some (.bool false) ∧ w0.frozen? ⟨w.heap.size + 1, 0, none⟩ = false) := by
    have := cellNew wx (.bool false) 4
    rw [hsx] at this
    rw [HW0.out]
    exact this
  have HE0 : Hid ((w.alloc (.cells #[.slice none 0 0] 48)).alloc (.cells #[.bool false] 4) = w0) := by
    show _ = _
    rw [HW0.out, HWX.out]
  clear hsx
  go_wp2_with fail
  rw [HE0.out]
  refine (bwrites (h.below HB0.out) (by simp)).mono ?_
  rintro e w1 ⟨rfl, v, cs, hbl, hel, htold, hb1, -, hfoot⟩
  obtain rfl : cs = [] := by have := htold.keys; simpa using this
  obtain ⟨A, cap, rfl⟩ := hel.slice
  have hcell : w1.cell? ⟨w0.heap.size, 0, none⟩ = some (.slice A ([] : List CE).length cap) := by
    have := cell_of_row w1 w0.heap.size 0 _ _ _ hbl
    simpa using this
  obtain ⟨w2, HW2⟩ : ∃ W, Hid (W = w1.alloc (.cells #[.int .i64 0] 3)) := ⟨_, rfl⟩
  have HB12 : Hid (Below w1.heap.size w1 w2) := by rw [HW2.out]; exact (Below.refl _ _).alloc (Nat.le_refl _) _
  have HNC : Hid (w2.cell? ⟨w1.heap.size, 0, none⟩ = some (.int .i64 0)) := by rw [HW2.out]; exact (cellNew w1 (.int .i64 0) _).1
  have HB2 := hid (below_step hb1 HB12.out)
  have HGV := hid ((writes_gives w1 A cap w0.heap.size [] hel hcell (by simp)).later (Stay.of_below HB12.out (fun b hb => by
    rcases hb with rfl | hb
    · exact (Array.getElem?_eq_some_iff.1 hbl).1
    · exact (hfoot b hb).2)))
  have HGLT : Hid (∀ b, (b = w0.heap.size ∨ b ∈ ownFoot (.slice A ([] : List CE).length cap)) → b < w2.heap.size) := fun b hb => by
    refine Nat.lt_of_lt_of_le ?_ HB12.out.size
    rcases hb with rfl | hb
    · exact (Array.getElem?_eq_some_iff.1 hbl).1
    · exact (hfoot b hb).2
  have HEN := hid (enters_of Tryz.func65 (by kernel_rfl) rfl)
  have hnil := run_eql_nil8
  clear hbl hel htold hb1 hfoot hcell
  go_wp2
  rw [← HW2.out]
  refine (wpIn_wide (n := 3)).1 ?_
  refine range_own (gf := 65) (lb := #[.pointer (some ⟨w0.heap.size, 0, none⟩)]) rfl HEN.out HGV.out (w0 := w2) (Stay.refl _ _) (fun _ => rfl) (fun _ _ W => Below w2.heap.size w2 W) (fun _ _ _ _ => False) (fun s K A A' row hI hg hr K' hK' => hI.grown hg hI.size fun k e => (hr k e).1) (fun _ _ _ _ _ _ h => h.elim) (fun b => b = w0.heap.size ∨ b ∈ ownFoot (.slice A ([] : List CE).length cap)) (fun _ h => h) HGLT.out (Below.refl _ _) ?round ?done ?stop
  case round =>
    rintro lq pre x K W m _ _ _ _ hpre
    exact absurd hpre.length_le (by simp)
  case stop =>
    rintro D c pre K W _ h
    exact h.elim
  case done =>
    rintro D Kd W hB _ _ hD hK
    have HBW := hid (below_step HB2.out hB)
    have hD' : w.heap.size ≤ D := by have := HB0.out.size; have := HB2.out.size; omega
    have q3 := below_keep HBW.out _ _ HLC.out
    have q4 := below_keep HBW.out _ _ HRC.out.1
    have q4f := (HBW.out.frozen (p := ⟨w.heap.size + 1, 0, none⟩) (blk_lt HRC.out.1)).trans HRC.out.2
    have q6 := below_keep hB _ _ HNC.out
    have HK' : Hid ((W.setCell ⟨w.heap.size + 1, 0, none⟩ (.bool true)).heap[D]? = some (.deferred (some []))) := (KeepsOthers.setCell W ⟨w.heap.size + 1, 0, none⟩ (.bool true)).same D _ hK rfl
    have hc5 := cell_kept (World.cell?_setCell_same' W ⟨w.heap.size + 1, 0, none⟩ (.bool true) (by rw [q4]; rfl)) (grownBy_putObj' _ D (.deferred none)) (fun r e => by cases e; exact ⟨_, HK'.out, rfl⟩)
    clear hB hK
    go_wp2
    refine ⟨by simp, .inl ⟨_, _, rfl, run_takeDeferred HK'.out, ?_⟩⟩
    refine ⟨.bool true, ?_, rfl, ?_⟩
    · simp [results, Tryz.f20, go_sem, hc5]
    · have hbw : Below w.heap.size w W := below_step HB0.out HBW.out
      exact (hbw.setCell (p := ⟨w.heap.size + 1, 0, none⟩) (by show w.heap.size ≤ w.heap.size + 1; omega) _).trans (belowK_b (w := w) (Nat.le_refl _) _ D _ _ hD' HK'.out rfl rfl)
end Go.Proofs.YtlnagdodnkhbmaaGreat
