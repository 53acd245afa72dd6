/- law07's Same, where the rows are the same. -/
import Derived.Test.YtlnagdodnkhbmaaT21
import Derived.RangeFuncNested
import Derived.Shelf.Abstract
import Derived.Shelf.RegionOpen
import Derived.OwnWalkIn
import Derived.TacticsInMore
import Derived.LoopNIn
import Derived.LoopIn
import Derived.Sort.QuietIn
import Derived.Deep.RegionHeld3
namespace Go.Proofs.Ytlnagdodnkhbmaa
open Go.RowKit Go.Shelf
set_option maxRecDepth 100000
attribute [local go_sem] Oper.semAt_some
theorem run_eql_nil7 (gf : Nat) (lb : Array Value) (W : World) : (binOp .eql 74 (.func (.func gf) #[] lb) .nilFunc).run Try.prog W = .ok (.bool false) W := by
  have h : (Op.equalIn (9999 + 1) 74 (.func (.func gf) #[] lb) .nilFunc).run Try.prog W = .ok false W := by
    unfold Op.equalIn
    simp [run_underlying Try.underlying74]
  simp [binOp, Op.equal, Op.maxDepth, h]
/-- A loop over a function that counts in block B; block w.heap.size holds a pointer, the next one the result. -/
def SameK (w : World) (p B : Nat) (pre : List KR) (K : Bl) (W : World) : Prop :=
  (W.cell? ⟨w.heap.size, 0, none⟩ = some (.pointer (some ⟨p, 0, none⟩)) ∧ W.cell? ⟨w.heap.size + 1, 0, none⟩ = some (.bool false) ∧ W.frozen? ⟨w.heap.size + 1, 0, none⟩ = false ∧ W.cell? ⟨B, 0, none⟩ = some (.int .i64 (pre.length : Nat)) ∧ W.frozen? ⟨B, 0, none⟩ = false ∧ ¬ K B) ∧ Below w.heap.size w W
theorem sameK_abide {w : World} {p B : Nat} (hlt : w.heap.size + 1 < B) : Abide (B + 1) (SameK w p B) := by
  rintro s K A A' row ⟨⟨h0, h1, h1f, hn, hnf, kb⟩, hB⟩ hg hr K' hK'
  have hsz : B < A.heap.size := blk_lt hn
  have hA : Below (B + 1) A A' := (Below.refl _ _).grown hg hsz fun k e => (hr k e).1
  refine ⟨⟨(hA.cell (by show w.heap.size < _; omega)).trans h0, (hA.cell (by show w.heap.size + 1 < _; omega)).trans h1, (hA.frozen (by show w.heap.size + 1 < _; omega)).trans h1f, (hA.cell (by show B < _; omega)).trans hn, (hA.frozen (by show B < _; omega)).trans hnf, fun h => ?_⟩, hB.grown hg hB.size fun k e => by have := (hr k e).1; omega⟩
  rcases hK' B h with h | h
  · exact kb h
  · omega
theorem SameK.below {w : World} {p B : Nat} {pre : List KR} {K : Bl} {W W' : World} (h : SameK w p B pre K W) (hb : Below W.heap.size W W') : SameK w p B pre K W' := by
  obtain ⟨⟨h0, h1, h1f, hn, hnf, kb⟩, hB⟩ := h
  exact ⟨⟨below_keep hb _ _ h0, below_keep hb _ _ h1, (hb.frozen (p := ⟨w.heap.size + 1, 0, none⟩) (blk_lt h1)).trans h1f, below_keep hb _ _ hn, (hb.frozen (p := ⟨B, 0, none⟩) (blk_lt hn)).trans hnf, kb⟩, below_step hB hb⟩
set_option maxHeartbeats 800000 in
theorem same7_yes (w : World) (T : Nat) (p : Nat → Nat) (Q : Bl) (most o : Nat) (l : List KR) (G : List Nat) (rp : Nat) (hT : Tab w T p Q most o l) (hR : RTab w G rp most l) (hl : KByt l) :
    Calls Try.prog 20 #[.pointer (some ⟨T, 0, none⟩), .pointer (some ⟨rp, 0, none⟩)] w fun e w' => e = .returned (.bool true) ∧ Below w.heap.size w w' := by
  have HT := hid hT
  have HR := hid hR
  have hsz : l.length ≤ 1024 := hT.le
  clear hT hR
  refine (callsIn_wide (n := 3)).1 ?_
  refine callsIn_of_wp_marks Try.func20 rfl trivial ?_ rfl
  simp only [Try.ntmps20, List.size_toArray, List.length_cons, List.length_nil, Nat.reduceAdd, Nat.reduceSub, Array.replicate_succ, Array.replicate_zero, List.push_toArray, List.append_toArray, List.nil_append, List.cons_append]
  have hB0 : Below w.heap.size w ((w.alloc (.cells #[.pointer (some ⟨rp, 0, none⟩)] 28)).alloc (.cells #[.bool false] 4)) := ((Below.refl _ w).alloc (Nat.le_refl _) _).alloc (by simp) _
  have HB0 := hid hB0
  have hnil := run_eql_nil7
  gi_wp2_with (refine ⟨trivial, ?_⟩; gi_at_call 33; refine (callsIn_wide.2 (tall (HT.out.below HB0.out))).mono ?_; rintro e w1 ⟨gf, lb, G1, rfl, hb1, hw1, hGQ⟩)
  have HB1 := hid (below_step HB0.out hb1)
  have c0 := below_keep hb1 _ _ (cellPast (.cells #[.bool false] 4) (cellNew w (.pointer (some ⟨rp, 0, none⟩)) 28).1)
  have c1 : w1.cell? ⟨w.heap.size + 1, 0, none⟩ = some (.bool false) := below_keep hb1 _ _ (by have := (cellNew (w.alloc (.cells #[.pointer (some ⟨rp, 0, none⟩)] 28)) (.bool false) 4).1; rwa [World.size_alloc] at this)
  have f1 : w1.frozen? ⟨w.heap.size + 1, 0, none⟩ = false := (hb1.frozen (p := ⟨w.heap.size + 1, 0, none⟩) (by simp)).trans (by have := (cellNew (w.alloc (.cells #[.pointer (some ⟨rp, 0, none⟩)] 28)) (.bool false) 4).2; rwa [World.size_alloc] at this)
  have cn := cellNew w1 (.int .i64 0) 3
  have hlt1 : w.heap.size + 1 < w1.heap.size := by have := hb1.size; simp at this; omega
  have HAB := hid (sameK_abide (w := w) (p := rp) (B := w1.heap.size) hlt1)
  refine range_own (gf := gf) (lb := lb) rfl hw1.en hw1.gives (w0 := w1) (Stay.of_below ((Below.refl _ w1).alloc (Nat.le_refl _) _) hw1.lt) (fun _ => rfl) (SameK w rp w1.heap.size) (fun _ _ _ _ => False) (by rw [World.size_alloc]; exact HAB.out) (fun _ _ _ _ _ _ h => h.elim) G1 (fun _ h => h) (fun b hb => by have := hw1.lt b hb; simp; omega)
    ⟨⟨cellPast _ c0, cellPast _ c1, frozenPast _ c1 f1, cn.1, cn.2, fun h => by have := hw1.lt _ h; omega⟩, HB1.out.alloc HB1.out.size _⟩ ?round ?done ?stop
  case round =>
    rintro lq pre x K W m hI hKW hKl hlq hpre
    dsimp only [encK, rowv, rowc]
    gi_wp2
    obtain ⟨Wa, HWA⟩ : ∃ Wa, Hid (Wa = W.alloc (.cells #[.int .i64 x.2.a, .int .i64 x.2.b, .int .i64 x.2.c, .int .i64 x.2.d] 33)) := ⟨_, rfl⟩
    rw [← HWA.out]
    have hba : Below W.heap.size W Wa := by rw [HWA.out]; exact (Below.refl _ _).alloc (Nat.le_refl _) _
    have hrow : Wa.heap[W.heap.size]? = some (.cells #[.int .i64 x.2.a, .int .i64 x.2.b, .int .i64 x.2.c, .int .i64 x.2.d] 33 (0, 0)) := by rw [HWA.out]; exact heap_alloc_new W _
    refine ⟨Stay.of_below hba hKW, fun W2 hg2 => ?_⟩
    have hlW := hKW lq hKl
    have hI2 := HAB.out pre K Wa W2 (some lq) (hI.below hba) hg2 (fun r e => by injection e with e; subst e; simp at hlq; exact ⟨hlq, hKl⟩) K fun b h => .inl h
    have HW2 : Hid (W.heap.size < W2.heap.size) := Nat.lt_of_lt_of_le (Array.getElem?_eq_some_iff.1 hrow).1 hg2.size
    have hrow2 : W2.heap[W.heap.size]? = some (.cells #[.int .i64 x.2.a, .int .i64 x.2.b, .int .i64 x.2.c, .int .i64 x.2.d] 33 (0, 0)) := (hg2.block _ (Array.getElem?_eq_some_iff.1 hrow).1 (by intro e; injection e with e; omega)).trans hrow
    have r0 := cell_of_row W2 W.heap.size 0 _ _ _ hrow2
    have r1 := cell_of_row W2 W.heap.size 1 _ _ _ hrow2
    have r2 := cell_of_row W2 W.heap.size 2 _ _ _ hrow2
    have r3 := cell_of_row W2 W.heap.size 3 _ _ _ hrow2
    clear hI hg2 hrow hrow2 hba
    obtain ⟨⟨h0, h1, h1f, hn, hnf, hkb⟩, hB⟩ := hI2
    have HBW := hid hB
    obtain ⟨u, hone, hel, _, _, _⟩ := HR.out.below hB
    obtain ⟨A, cap, rfl⟩ := hel.slice
    have hp := cell_of_row W2 rp 0 _ _ _ hone
    have hmx : l.length ≤ 1024 := hsz
    obtain ⟨n, HNE⟩ : ∃ n, Hid (n = pre.length) := ⟨_, rfl⟩
    have hq : l[n]? = some x := by
      obtain ⟨t, ht⟩ := hpre
      rw [← ht, HNE.out, List.append_assoc, List.getElem?_append_right (Nat.le_refl _)]
      simp
    have hqb := hl x (List.mem_of_getElem? hq)
    obtain ⟨len, HLEN⟩ : ∃ len, Hid (len = l.length) := ⟨_, rfl⟩
    have hlt : n < len := by rw [HLEN.out]; exact (List.getElem?_eq_some_iff.1 hq).1
    rw [← HLEN.out] at hp hmx
    simp at hp
    rw [← HNE.out] at hn
    have hlti : decide (len ≤ n) = false := by rw [decide_eq_false_iff_not]; omega
    have hlti' : (n : Int) < len := by omega
    obtain ⟨ad, rfl, q0, q1, q2, q3, q4⟩ := hel.qat hq
    have hk1 := beq_str hqb hqb
    simp only [decide_true] at hk1
    simp at r0 r1 r2 r3
    have heq := eq_rows x.2 x.2
    rw [decide_eq_true rfl] at heq
    clear hel hone hq hqb hpre hB
    gi_wp2
    refine region_round (by kernel_rfl) (by kernel_rfl) (by kernel_rfl) ?_
    repeat (gi_big_quiet_step (fail))
    refine wpQuietIn_nil ?_
    intro _ hw'
    obtain ⟨nq, hw''⟩ := hw'
    subst hw''
    gi_wp2
    have hnb : w.heap.size ≠ w1.heap.size := by omega
    have hnb1 : w.heap.size + 1 ≠ w1.heap.size := by omega
    refine ⟨(stay_drew K W2 nq).trans ⟨by simp [World.setCell], fun b hb => Below.heap_setCell _ _ _ _ fun e => hkb (by rw [e] at hb; exact hb)⟩, ⟨cellFar (b := ⟨w1.heap.size, 0, none⟩) h0 hnb _, cellFar (b := ⟨w1.heap.size, 0, none⟩) h1 hnb1 _, ?_, ?_, ?_, hkb⟩, (below_drewN' HBW.out nq).setCell (p := ⟨w1.heap.size, 0, none⟩) (by show w.heap.size ≤ w1.heap.size; omega) _⟩
    · rw [World.frozen?_setCell]; exact h1f
    · rw [List.length_append, ← HNE.out]
      exact World.cell?_setCell_same' _ _ _ (by show (W2.cell? _).isSome = true; rw [hn]; rfl)
    · rw [World.frozen?_setCell]; exact hnf
  case done =>
    rintro D Kd W ⟨⟨h0, h1, h1f, hn, hnf, _⟩, hB⟩ _ _ hD hK
    have HBW := hid hB
    have HK := hid hK
    obtain ⟨u, hone, hel, _, _, _⟩ := HR.out.below hB
    obtain ⟨A, cap, rfl⟩ := hel.slice
    have hp := cell_of_row W rp 0 _ _ _ hone
    simp at hp
    have hpl : rp < w.heap.size := HR.out.plt
    obtain ⟨len, HLEN⟩ : ∃ len, Hid (len = l.length) := ⟨_, rfl⟩
    rw [← HLEN.out] at hp hn
    have HP := hid hp
    have HC0 := hid h0
    have HCN := hid hn
    have HC1 := hid h1
    have HF1 := hid h1f
    have hD' : w.heap.size ≤ D := by simp at hD; omega
    have HLN : Hid (∀ W', Below w.heap.size w W' → Calls Try.prog 16 #[.pointer (some ⟨T, 0, none⟩)] W' fun e w2 => e = .returned (.int .i64 (len : Int)) ∧ Below W'.heap.size W' w2) := fun W' hb => by
      rw [HLEN.out]
      refine (tlen (HT.out.below hb)).mono ?_
      rintro e w2 ⟨h, rfl⟩
      exact ⟨h, Below.refl _ _⟩
    clear hel hone hB hK hnf
    gi_wp2
    refine wpIn_wide.2 ?_
    go_region_held3 (fun W' => W'.cell? ⟨w1.heap.size, 0, none⟩ = some (.int .i64 len) ∧ W'.cell? ⟨w.heap.size, 0, none⟩ = some (.pointer (some ⟨rp, 0, none⟩)) ∧ W'.cell? ⟨rp, 0, none⟩ = some (.slice A len cap)) (first | exact ⟨hn, h0, hp⟩ | exact HS2.out | exact HS3.out)
      (first
        | (go_at_call 16; ((with_reducible refine (HLN.out _ (HBW.out.drew)).mono ?_); rintro e w5 ⟨rfl, hb5⟩; have HB5 := hid hb5; have HS2 : Hid (w5.cell? ⟨w1.heap.size, 0, none⟩ = some (.int .i64 len) ∧ w5.cell? ⟨w.heap.size, 0, none⟩ = some (.pointer (some ⟨rp, 0, none⟩)) ∧ w5.cell? ⟨rp, 0, none⟩ = some (.slice A len cap)) := ⟨below_keep hb5 _ _ HCN.out, below_keep hb5 _ _ HC0.out, below_keep hb5 _ _ HP.out⟩; have HS3 : Hid ((w5.setCell ⟨w.heap.size + 1, 0, none⟩ (.bool true)).cell? ⟨w1.heap.size, 0, none⟩ = some (.int .i64 len) ∧ (w5.setCell ⟨w.heap.size + 1, 0, none⟩ (.bool true)).cell? ⟨w.heap.size, 0, none⟩ = some (.pointer (some ⟨rp, 0, none⟩)) ∧ (w5.setCell ⟨w.heap.size + 1, 0, none⟩ (.bool true)).cell? ⟨rp, 0, none⟩ = some (.slice A len cap)) := ⟨cellFar (b := ⟨w.heap.size + 1, 0, none⟩) HS2.out.1 (by show w1.heap.size ≠ w.heap.size + 1; omega) _, cellFar (b := ⟨w.heap.size + 1, 0, none⟩) HS2.out.2.1 (by show w.heap.size ≠ w.heap.size + 1; omega) _, cellFar (b := ⟨w.heap.size + 1, 0, none⟩) HS2.out.2.2 (by show rp ≠ w.heap.size + 1; omega) _⟩; have h15 := below_keep hb5 _ _ HC1.out; have h15f := (hb5.frozen (p := ⟨w.heap.size + 1, 0, none⟩) (blk_lt HC1.out)).trans HF1.out; clear hb5)))
    have hDW : D < W.heap.size := (Array.getElem?_eq_some_iff.1 HK.out).1
    have HK' : Hid ((w5.setCell ⟨w.heap.size + 1, 0, none⟩ (.bool true)).heap[D]? = some (.deferred (some []))) := (KeepsOthers.setCell w5 ⟨w.heap.size + 1, 0, none⟩ (.bool true)).same D _ ((HB5.out.block D hDW).trans HK.out) rfl
    have hc5 := cell_kept (World.cell?_setCell_same' w5 ⟨w.heap.size + 1, 0, none⟩ (.bool true) (by rw [h15]; rfl)) (grownBy_putObj' _ D (.deferred none)) (fun r e => by cases e; exact ⟨_, HK'.out, rfl⟩)
    gi_wp2
    refine ⟨by simp, .inl ⟨_, _, rfl, run_takeDeferred HK'.out, ?_⟩⟩
    refine ⟨.bool true, ?_, rfl, ?_⟩
    · simp [results, Try.f20, go_sem, hc5]
    · exact ((below_step HBW.out.drew HB5.out).setCell (p := ⟨w.heap.size + 1, 0, none⟩) (by show w.heap.size ≤ w.heap.size + 1; omega) _).trans (belowK_b (w := w) (Nat.le_refl _) _ D _ _ hD' HK'.out rfl rfl)
  case stop =>
    rintro D c pre K W _ h
    exact h.elim
end Go.Proofs.Ytlnagdodnkhbmaa
