/- table.Same: are the rows of two tables the same? -/
import Derived.Test.YtlnagdodnkhbmaaT30
import Derived.Test.YtlnagdodnkhbmaaT29
namespace Go.Proofs.Ytlnagdodnkhbmaa
open Go.RowKit Go.Shelf
set_option maxRecDepth 100000
attribute [local go_sem] Oper.semAt_some

theorem sub_perm {α : Type} : ∀ {A B : List α}, A.Pairwise (· ≠ ·) → (∀ q ∈ A, q ∈ B) → ∃ C, B.Perm (A ++ C)
  | [], B, _, _ => ⟨B, List.Perm.refl _⟩
  | a :: A, B, hn, hs => by
    obtain ⟨hn1, hn2⟩ := List.pairwise_cons.1 hn
    obtain ⟨s, t, rfl⟩ := List.append_of_mem (hs a List.mem_cons_self)
    obtain ⟨C, hC⟩ := sub_perm (A := A) (B := s ++ t) hn2 fun q hq => by
      have h1 := hs q (List.mem_cons_of_mem _ hq)
      rw [List.mem_append, List.mem_cons] at h1
      rw [List.mem_append]
      rcases h1 with h1 | h1 | h1
      · exact .inl h1
      · exact absurd h1.symm (hn1 q hq)
      · exact .inr h1
    exact ⟨C, List.perm_middle.trans (by rw [List.cons_append]; exact hC.cons a)⟩
/-- Rows that are as many, each of which is the other's, are the same. -/
theorem rows_sub {A B : List KR} (hA : RowsOk A) (hB : RowsOk B) (hl : A.length = B.length) (h : ∀ q ∈ A, q ∈ B) : A = B := by
  have hn : A.Pairwise (· ≠ ·) := hA.diff.imp fun {a b} hab e => hab (congrArg Prod.fst e)
  obtain ⟨C, hC⟩ := sub_perm hn h
  have h1 := hC.length_eq
  rw [List.length_append] at h1
  have h2 : C = [] := List.eq_nil_of_length_eq_zero (by omega)
  rw [h2, List.append_nil] at hC
  exact rows_ext hA hB fun q => hC.symm.mem_iff
theorem Ro.ext_l {r s : Ro} (h : r.l = s.l) : r = s := by
  obtain ⟨a, b, c, d⟩ := r
  obtain ⟨a', b', c', d'⟩ := s
  simp [Ro.l] at h
  obtain ⟨rfl, rfl, rfl, rfl⟩ := h
  rfl
def memK (b : List KR) (q : KR) : Bool := b.any fun r => decide (r.1 = q.1) && decide (r.2.l = q.2.l)
theorem memK_iff {b : List KR} {q : KR} : memK b q = true ↔ q ∈ b := by
  unfold memK
  rw [List.any_eq_true]
  constructor
  · rintro ⟨r, hr, h⟩
    rw [Bool.and_eq_true, decide_eq_true_iff, decide_eq_true_iff] at h
    rwa [← Prod.ext h.1 (Ro.ext_l h.2)]
  · exact fun h => ⟨q, h, by simp⟩
def sameL (a b : List KR) : Bool := decide (a.length = b.length) && a.all (memK b)
theorem sameL_iff {a b : List KR} : sameL a b = true ↔ a.length = b.length ∧ ∀ q ∈ a, q ∈ b := by
  unfold sameL
  rw [Bool.and_eq_true, decide_eq_true_iff, List.all_eq_true]
  exact and_congr_right fun _ => ⟨fun h q hq => memK_iff.1 (h q hq), fun h q hq => memK_iff.2 (h q hq)⟩
theorem sameL_yes {a b : List KR} (ha : RowsOk a) (hb : RowsOk b) : sameL a b = true ↔ a = b := by
  rw [sameL_iff]
  constructor
  · exact fun h => rows_sub ha hb h.1 h.2
  · rintro rfl; exact ⟨rfl, fun _ h => h⟩
theorem sameL_refl (a : List KR) : sameL a a = true := sameL_iff.2 ⟨rfl, fun _ h => h⟩
theorem sameL_one {a b : List KR} {q : KR} (hm : q ∈ a) (hn : q ∉ b) : sameL a b = false := by
  rw [Bool.eq_false_iff]
  exact fun h => hn ((sameL_iff.1 h).2 q hm)
theorem sameL_len {a b : List KR} (h : a.length ≠ b.length) : sameL a b = false := by
  rw [Bool.eq_false_iff]
  exact fun e => h (sameL_iff.1 e).1
section
variable {w : World} {T : Nat} {p : Nat → Nat} {Q : Bl} {most o : Nat} {l : List KR} {T2 : Nat} {p2 : Nat → Nat} {Q2 : Bl} {most2 o2 : Nat} {l2 : List KR}
theorem tget_in (h : Tab w T2 p2 Q2 most2 o2 l2) (k : List Nat) (r : Ro) (hk : keyB k = true) (hb : Byt k) (hm : (k, r) ∈ l2) : Calls Try.prog 17 #[.pointer (some ⟨T2, 0, none⟩), .string (str k)] w (RowEnd w r 0) := by
  have := tget h k hb
  unfold kgetR kgetE at this
  rw [if_pos hk, if_pos hk, h.rows.get hm] at this
  exact this
theorem tget_out (h : Tab w T2 p2 Q2 most2 o2 l2) (k : List Nat) (hk : keyB k = true) (hb : Byt k) (hm : getK l2 k = none) : Calls Try.prog 17 #[.pointer (some ⟨T2, 0, none⟩), .string (str k)] w (RowEnd w zero4 14) := by
  have := tget h k hb
  unfold kgetR kgetE at this
  rw [if_pos hk, if_pos hk, hm] at this
  exact this
def SameT (w : World) (T2 : Nat) (l2 pre : List KR) (K : Bl) (W : World) : Prop := CheckK w T2 pre K W ∧ ¬ K (w.heap.size + 1) ∧ ∀ q ∈ pre, q ∈ l2
def SameX (w : World) (T2 : Nat) (l2 pre : List KR) (K : Bl) (W : World) : Prop := CheckK w T2 pre K W ∧ ¬ K (w.heap.size + 1) ∧ ∃ q ∈ pre, q ∉ l2
theorem sameT_abide {B : Nat} (hB : w.heap.size + 2 ≤ B) : Abide B (SameT w T2 l2) := by
  rintro s K A A' row ⟨h, hk, hq⟩ hg hr K' hK'
  refine ⟨checkK_abide s K A A' row h hg (fun r e => ⟨Nat.le_trans hB (hr r e).1, (hr r e).2⟩) K' hK', fun h2 => ?_, hq⟩
  have : w.heap.size + 1 < A.heap.size := blk_lt h.1.2.1
  rcases hK' _ h2 with h3 | h3
  · exact hk h3
  · omega
theorem sameX_abide {B : Nat} (hB : w.heap.size + 2 ≤ B) : Abide B (SameX w T2 l2) := by
  rintro s K A A' row ⟨h, hk, hq⟩ hg hr K' hK'
  refine ⟨checkK_abide s K A A' row h hg (fun r e => ⟨Nat.le_trans hB (hr r e).1, (hr r e).2⟩) K' hK', fun h2 => ?_, hq⟩
  have : w.heap.size + 1 < A.heap.size := blk_lt h.1.2.1
  rcases hK' _ h2 with h3 | h3
  · exact hk h3
  · omega
theorem checkK_set {pre : List KR} {K : Bl} {W : World} (h : CheckK w T2 pre K W) (pre' : List KR) : CheckK w T2 pre' K (W.setCell ⟨w.heap.size + 1, 0, none⟩ (.bool false)) := by
  obtain ⟨⟨h0, h1, h1f⟩, hB⟩ := h
  refine ⟨⟨cellFar (b := ⟨w.heap.size + 1, 0, none⟩) h0 (by show w.heap.size ≠ w.heap.size + 1; omega) _, World.cell?_setCell_same' _ _ _ (by rw [h1]; rfl), ?_⟩, hB.setCell (p := ⟨w.heap.size + 1, 0, none⟩) (by show w.heap.size ≤ w.heap.size + 1; omega) _⟩
  rw [World.frozen?_setCell]; exact h1f
theorem stay_set {K : Bl} {W : World} (hk : ¬ K (w.heap.size + 1)) : Stay K W (W.setCell ⟨w.heap.size + 1, 0, none⟩ (.bool false)) :=
  ⟨by simp [World.setCell], fun b hb => Below.heap_setCell _ _ _ _ fun e => hk (by rw [e] at hb; exact hb)⟩
set_option maxHeartbeats 2000000 in
theorem tsame_no (h : Tab w T p Q most o l) (h2 : Tab w T2 p2 Q2 most2 o2 l2) (hl : l.length ≠ l2.length) : Calls Try.prog 21 #[.pointer (some ⟨T, 0, none⟩), .pointer (some ⟨T2, 0, none⟩)] w fun e w' => e = .returned (.bool false) ∧ Below w.heap.size w w' := by
  have HT := hid h
  have HT2 := hid h2
  obtain ⟨wb, HWB⟩ : ∃ W, Hid (W = (w.alloc (.cells #[.pointer (some ⟨T2, 0, none⟩)] 27)).alloc (.cells #[.bool false] 4)) := ⟨_, rfl⟩
  have HB0 : Hid (Below w.heap.size w ((w.alloc (.cells #[.pointer (some ⟨T2, 0, none⟩)] 27)).alloc (.cells #[.bool false] 4))) := ((Below.refl _ w).alloc (Nat.le_refl _) _).alloc (by simp) _
  have HCK : Hid (CheckK w T2 [] (fun _ => False) wb) := by
    rw [HWB.out]
    have c1 := (cellNew (w.alloc (.cells #[.pointer (some ⟨T2, 0, none⟩)] 27)) (.bool false) 4).1
    have f1 := (cellNew (w.alloc (.cells #[.pointer (some ⟨T2, 0, none⟩)] 27)) (.bool false) 4).2
    rw [World.size_alloc] at c1 f1
    exact ⟨⟨cellPast _ (cellNew w (.pointer (some ⟨T2, 0, none⟩)) 27).1, c1, f1⟩, HB0.out⟩
  obtain ⟨n, HN⟩ : ∃ n, Hid (n = l.length) := ⟨_, rfl⟩
  obtain ⟨n2, HN2⟩ : ∃ n, Hid (n = l2.length) := ⟨_, rfl⟩
  have HLN : Hid (∀ W', Below w.heap.size w W' → Calls Try.prog 16 #[.pointer (some ⟨T, 0, none⟩)] W' fun e w2 => e = .returned (.int .i64 (n : Int)) ∧ Below W'.heap.size W' w2) := fun W' hb => by
    rw [HN.out]
    refine (tlen (HT.out.below hb)).mono ?_
    rintro e w2 ⟨h, rfl⟩
    exact ⟨h, Below.refl _ _⟩
  have HLN2 : Hid (∀ W', Below w.heap.size w W' → Calls Try.prog 16 #[.pointer (some ⟨T2, 0, none⟩)] W' fun e w2 => e = .returned (.int .i64 (n2 : Int)) ∧ Below W'.heap.size W' w2) := fun W' hb => by
    rw [HN2.out]
    refine (tlen (HT2.out.below hb)).mono ?_
    rintro e w2 ⟨h, rfl⟩
    exact ⟨h, Below.refl _ _⟩
  have hne : ¬ (n : Int) = (n2 : Int) := by have := HN.out; have := HN2.out; omega
  have HBW := hid HCK.out.2
  obtain ⟨⟨t0, t1, t1f⟩, -⟩ := HCK.out
  rw [HWB.out] at t0 t1 t1f
  clear h h2 hl
  go_enter Try.func21, Try.ntmps21
  go_wp2_with fail
  rw [← HWB.out] at t0 t1 t1f ⊢
  go_region_held3 (fun W => W.cell? ⟨w.heap.size, 0, none⟩ = some (.pointer (some ⟨T2, 0, none⟩))) (first | exact t0 | exact HS4.out | exact HS5.out)
    (first
      | (go_at_call 16; ((with_reducible refine (HLN2.out _ (below_step HBW.out.drew HB4.out)).mono ?_); rintro e w5 ⟨rfl, hb5⟩; have HC5 := hid (HCK4.out.below hb5); have HS5 : Hid (w5.cell? ⟨w.heap.size, 0, none⟩ = some (.pointer (some ⟨T2, 0, none⟩))) := HC5.out.1.1; clear hb5))
      | (go_at_call 16; ((with_reducible refine (HLN.out _ HBW.out.drew).mono ?_); rintro e w4 ⟨rfl, hb4⟩; have HB4 := hid hb4; have HCK4 := hid ((HCK.out.below (Below.refl _ wb).drew).below hb4); have HS4 : Hid (w4.cell? ⟨w.heap.size, 0, none⟩ = some (.pointer (some ⟨T2, 0, none⟩))) := HCK4.out.1.1; clear hb4)))
  obtain ⟨⟨u0, u1, u1f⟩, -⟩ := HC5.out
  have HE := hid (checkK_set HC5.out [])
  obtain ⟨⟨-, e1, -⟩, -⟩ := HE.out
  clear t0 t1 t1f
  go_wp2
  exact bodyPost_ret (v := .bool false) (by simp [results, Try.results21, go_sem, e1]) rfl ⟨rfl, HE.out.2⟩
set_option maxHeartbeats 4000000 in
theorem tsame_eq (h : Tab w T p Q most o l) (h2 : Tab w T2 p2 Q2 most2 o2 l2) (hl : l.length = l2.length) : Calls Try.prog 21 #[.pointer (some ⟨T, 0, none⟩), .pointer (some ⟨T2, 0, none⟩)] w fun e w' => e = .returned (.bool (sameL l l2)) ∧ Below w.heap.size w w' := by
  have HT := hid h
  have HT2 := hid h2
  have hsz := h.le
  have HLE := hid hl
  have HB0 : Hid (Below w.heap.size w ((w.alloc (.cells #[.pointer (some ⟨T2, 0, none⟩)] 27)).alloc (.cells #[.bool false] 4))) := ((Below.refl _ w).alloc (Nat.le_refl _) _).alloc (by simp) _
  obtain ⟨wb, HWB⟩ : ∃ W, Hid (W = (w.alloc (.cells #[.pointer (some ⟨T2, 0, none⟩)] 27)).alloc (.cells #[.bool false] 4)) := ⟨_, rfl⟩
  have HCK : Hid (CheckK w T2 [] (fun _ => False) wb) := by
    rw [HWB.out]
    have c1 := (cellNew (w.alloc (.cells #[.pointer (some ⟨T2, 0, none⟩)] 27)) (.bool false) 4).1
    have f1 := (cellNew (w.alloc (.cells #[.pointer (some ⟨T2, 0, none⟩)] 27)) (.bool false) 4).2
    rw [World.size_alloc] at c1 f1
    exact ⟨⟨cellPast _ (cellNew w (.pointer (some ⟨T2, 0, none⟩)) 27).1, c1, f1⟩, HB0.out⟩
  obtain ⟨n, HN⟩ : ∃ n, Hid (n = l.length) := ⟨_, rfl⟩
  have HLN : Hid (∀ W', Below w.heap.size w W' → Calls Try.prog 16 #[.pointer (some ⟨T, 0, none⟩)] W' fun e w2 => e = .returned (.int .i64 (n : Int)) ∧ Below W'.heap.size W' w2) := fun W' hb => by
    rw [HN.out]
    refine (tlen (HT.out.below hb)).mono ?_
    rintro e w2 ⟨h, rfl⟩
    exact ⟨h, Below.refl _ _⟩
  have HLN2 : Hid (∀ W', Below w.heap.size w W' → Calls Try.prog 16 #[.pointer (some ⟨T2, 0, none⟩)] W' fun e w2 => e = .returned (.int .i64 (n : Int)) ∧ Below W'.heap.size W' w2) := fun W' hb => by
    rw [HN.out, HLE.out]
    refine (tlen (HT2.out.below hb)).mono ?_
    rintro e w2 ⟨h, rfl⟩
    exact ⟨h, Below.refl _ _⟩
  have HBW := hid HCK.out.2
  obtain ⟨⟨t0, t1, t1f⟩, -⟩ := HCK.out
  rw [HWB.out] at t0 t1 t1f
  clear h h2 hl
  refine (callsIn_wide (n := 3)).1 ?_
  refine callsIn_of_wp_marks Try.func21 rfl trivial ?_ rfl
  simp only [Try.ntmps21, List.size_toArray, List.length_cons, List.length_nil, Nat.reduceAdd, Nat.reduceSub, Array.replicate_succ, Array.replicate_zero, List.push_toArray, List.append_toArray, List.nil_append, List.cons_append]
  refine wpIn_wide.2 ?_
  go_wp2_with fail
  rw [← HWB.out] at t0 t1 t1f ⊢
  go_region_held3 (fun W => W.cell? ⟨w.heap.size, 0, none⟩ = some (.pointer (some ⟨T2, 0, none⟩))) (first | exact t0 | exact HS4.out | exact HS5.out)
    (first
      | (go_at_call 16; ((with_reducible refine (HLN2.out _ (below_step HBW.out.drew HB4.out)).mono ?_); rintro e w5 ⟨rfl, hb5⟩; have HB5 := hid (below_step (below_step HBW.out.drew HB4.out) hb5); have HC5 := hid (HCK4.out.below hb5); have HS5 : Hid (w5.cell? ⟨w.heap.size, 0, none⟩ = some (.pointer (some ⟨T2, 0, none⟩))) := HC5.out.1.1; clear hb5))
      | (go_at_call 16; ((with_reducible refine (HLN.out _ HBW.out.drew).mono ?_); rintro e w4 ⟨rfl, hb4⟩; have HB4 := hid hb4; have HCK4 := hid ((HCK.out.below (Below.refl _ wb).drew).below hb4); have HS4 : Hid (w4.cell? ⟨w.heap.size, 0, none⟩ = some (.pointer (some ⟨T2, 0, none⟩))) := HCK4.out.1.1; clear hb4)))
  clear t0 t1 t1f
  go_wp2_with fail
  refine (tall (HT.out.below HB5.out)).mono ?_
  rintro e w1 ⟨gf, lb, G1, rfl, hb1, hw1, hGQ⟩
  have HC1 := hid (HC5.out.below hb1)
  have hw1s : w.heap.size + 2 ≤ w1.heap.size := blk_lt HC1.out.1.2.1
  have HNK : Hid (¬ G1 (w.heap.size + 1)) := fun hg => by
    rcases hGQ _ hg with h3 | h3
    · have := HT.out.under _ h3; omega
    · have := blk_lt HC5.out.1.2.1
      change w.heap.size + 1 < w5.heap.size at this
      omega
  clear hb1
  go_wp2
  refine (wpIn_wide (n := 3)).1 ?_
  refine range_own (gf := gf) (lb := lb) rfl hw1.en hw1.gives (w0 := w1) (Stay.refl _ _) (fun _ => rfl) (SameT w T2 l2) (fun cd s K W => cd = .ret ∧ SameX w T2 l2 s K W) (sameT_abide hw1s) (fun cd s K A A' row hi hg hr K' hK' => ⟨hi.1, sameX_abide hw1s s K A A' row hi.2 hg hr K' hK'⟩) G1 (fun _ h => h) hw1.lt
    ⟨HC1.out, HNK.out, by simp⟩ ?round ?done ?stop
  case round =>
    rintro lq pre x K W m hI hKW hKl hlq hpre
    dsimp only [encK, rowv, rowc]
    gi_wp2
    obtain ⟨Wa, HWA⟩ : ∃ Wa, Hid (Wa = W.alloc (.cells #[.int .i64 x.2.a, .int .i64 x.2.b, .int .i64 x.2.c, .int .i64 x.2.d] 33)) := ⟨_, rfl⟩
    rw [← HWA.out]
    have hba : Below W.heap.size W Wa := by rw [HWA.out]; exact (Below.refl _ _).alloc (Nat.le_refl _) _
    have hrow : Lies Wa W.heap.size x.2 := by rw [HWA.out]; exact Lies.new W x.2
    refine ⟨Stay.of_below hba hKW, fun W2 hg2 => ?_⟩
    have hlW := hKW lq hKl
    have hI1 : SameT w T2 l2 pre K Wa := ⟨hI.1.below hba, hI.2⟩
    have HI2 := hid (sameT_abide hw1s pre K Wa W2 (some lq) hI1 hg2 (fun r e => by injection e with e; subst e; exact ⟨by omega, hKl⟩) K fun b h => .inl h)
    have HROW : Hid (Lies W2 W.heap.size x.2) := hrow.keep (hg2.block _ hrow.lt (by intro e; injection e with e; omega))
    have HKS : Hid (∀ b, K b → b < W2.heap.size) := fun b hb => Nat.lt_of_lt_of_le (hKW b hb) (Nat.le_trans hba.size hg2.size)
    have HXM : Hid ((x.1, x.2) ∈ l) := hpre.subset (by simp)
    have HKB := hid (HT.out.rows.byt _ HXM.out)
    have HKY := hid (HT.out.rows.key _ HXM.out)
    clear hI hI1 hg2 hrow hba hpre
    obtain ⟨⟨⟨h0, h1, h1f⟩, hB⟩, hnk, hq⟩ := HI2.out
    have HBW2 := hid hB
    have HQ := hid hq
    clear hB hq
    cases hg : getK l2 x.1 with
    | none =>
      have HG := hid hg
      clear hg
      gi_wp2
      refine ⟨trivial, fun h => (by cases h), ?_⟩
      refine (CallsIn.inRound lq (callsIn_wide.2 (tget_out (HT2.out.below HBW2.out) x.1 HKY.out HKB.out HG.out))).mono ?_
      rintro e w3 ⟨rfl, hb3⟩
      have HC3 := hid (HI2.out.1.below (below_step hb3 ((Below.refl _ w3).alloc (Nat.le_refl _) (.cells #[.int .i64 0, .int .i64 0, .int .i64 0, .int .i64 0] 33))))
      have HB3 : Hid (Below W2.heap.size W2 (w3.alloc (.cells #[.int .i64 0, .int .i64 0, .int .i64 0, .int .i64 0] 33))) := below_step hb3 ((Below.refl _ w3).alloc (Nat.le_refl _) _)
      dsimp only [rowv, rowc, zero4]
      obtain ⟨⟨u0, u1, u1f⟩, -⟩ := HC3.out
      clear hb3 h0 h1 h1f
      gi_wp2
      refine ⟨(Stay.of_below HB3.out HKS.out).trans (stay_set hnk), rfl, checkK_set HC3.out _, hnk, (x.1, x.2), by simp, fun h4 => ?_⟩
      have := HT2.out.rows.get h4
      rw [HG.out] at this
      cases this
    | some s =>
      have HG := hid (getK_mem hg)
      clear hg
      by_cases hsx : s.l = x.2.l
      · have hs2 : s = x.2 := Ro.ext_l hsx
        subst hs2
        have heq := eq_rows x.2 x.2
        rw [decide_eq_true rfl] at heq
        clear hsx
        gi_wp2
        refine ⟨trivial, fun h => (by cases h), ?_⟩
        refine (CallsIn.inRound lq (callsIn_wide.2 (tget_in (HT2.out.below HBW2.out) x.1 x.2 HKY.out HKB.out HG.out))).mono ?_
        rintro e w3 ⟨rfl, hb3⟩
        dsimp only [rowv, rowc]
        have HB3 : Hid (Below W2.heap.size W2 (w3.alloc (.cells #[.int .i64 x.2.a, .int .i64 x.2.b, .int .i64 x.2.c, .int .i64 x.2.d] 33))) := below_step hb3 ((Below.refl _ w3).alloc (Nat.le_refl _) _)
        obtain ⟨y0, y1, y2, y3⟩ := (HROW.out.below HB3.out).four
        obtain ⟨z0, z1, z2, z3⟩ := (Lies.new w3 x.2).four
        dsimp only [rowc] at y0 y1 y2 y3 z0 z1 z2 z3
        clear hb3 h0 h1 h1f
        gi_wp2
        refine ⟨Stay.of_below HB3.out HKS.out, HI2.out.1.below HB3.out, hnk, fun q hq => ?_⟩
        rcases List.mem_append.1 hq with hq | hq
        · exact HQ.out q hq
        · rw [List.mem_singleton.1 hq]; exact HG.out
      · have heq := eq_rows s x.2
        rw [decide_eq_false hsx] at heq
        have HSX := hid hsx
        clear hsx
        gi_wp2
        refine ⟨trivial, fun h => (by cases h), ?_⟩
        refine (CallsIn.inRound lq (callsIn_wide.2 (tget_in (HT2.out.below HBW2.out) x.1 s HKY.out HKB.out HG.out))).mono ?_
        rintro e w3 ⟨rfl, hb3⟩
        dsimp only [rowv, rowc]
        have HB3 : Hid (Below W2.heap.size W2 (w3.alloc (.cells #[.int .i64 s.a, .int .i64 s.b, .int .i64 s.c, .int .i64 s.d] 33))) := below_step hb3 ((Below.refl _ w3).alloc (Nat.le_refl _) _)
        have HC3 := hid (HI2.out.1.below HB3.out)
        obtain ⟨y0, y1, y2, y3⟩ := (HROW.out.below HB3.out).four
        obtain ⟨z0, z1, z2, z3⟩ := (Lies.new w3 s).four
        dsimp only [rowc] at y0 y1 y2 y3 z0 z1 z2 z3
        obtain ⟨⟨u0, u1, u1f⟩, -⟩ := HC3.out
        clear hb3 h0 h1 h1f
        gi_wp2
        refine ⟨(Stay.of_below HB3.out HKS.out).trans (stay_set hnk), rfl, checkK_set HC3.out _, hnk, (x.1, x.2), by simp, fun h4 => ?_⟩
        have h5 := HT2.out.rows.get h4
        rw [HT2.out.rows.get HG.out] at h5
        injection h5 with h5
        exact HSX.out (by rw [h5])
  case done =>
    rintro D Kd W ⟨⟨⟨h0, h1, h1f⟩, hB⟩, _, hq⟩ _ _ hD hK
    have HRES : Hid (sameL l l2 = true) := sameL_iff.2 ⟨HLE.out, hq⟩
    have HBWW := hid hB
    have hD' : w.heap.size ≤ D := by omega
    have HK' : Hid ((W.setCell ⟨w.heap.size + 1, 0, none⟩ (.bool true)).heap[D]? = some (.deferred (some []))) := (KeepsOthers.setCell W ⟨w.heap.size + 1, 0, none⟩ (.bool true)).same D _ hK rfl
    have hc5 := cell_kept (World.cell?_setCell_same' W ⟨w.heap.size + 1, 0, none⟩ (.bool true) (by rw [h1]; rfl)) (grownBy_putObj' _ D (.deferred none)) (fun r e => by cases e; exact ⟨_, HK'.out, rfl⟩)
    clear hB hK hq
    gi_wp2
    go_wp2
    refine ⟨by simp, .inl ⟨_, _, rfl, run_takeDeferred HK'.out, ?_⟩⟩
    refine ⟨.bool true, ?_, ?_, ?_⟩
    · simp [results, Try.f21, go_sem, hc5]
    · rw [HRES.out]
    · exact (HBWW.out.setCell (p := ⟨w.heap.size + 1, 0, none⟩) (by show w.heap.size ≤ w.heap.size + 1; omega) _).trans (belowK_b (w := w) (Nat.le_refl _) _ D _ _ hD' HK'.out rfl rfl)
  case stop =>
    rintro D cd pre K W hpre ⟨rfl, ⟨⟨h0, h1, h1f⟩, hB⟩, _, q, hqp, hqn⟩ _ _ hD hK
    have HRES : Hid (sameL l l2 = false) := sameL_one (hpre.subset hqp) hqn
    have HBWW := hid hB
    have hD' : w.heap.size ≤ D := by omega
    have HK' := hid hK
    have hc5 := cell_kept h1 (grownBy_putObj' _ D (.deferred none)) (fun r e => by cases e; exact ⟨_, HK'.out, rfl⟩)
    clear hB hK hqp hqn hpre
    gi_wp2
    go_wp2
    refine ⟨by simp, .inl ⟨_, _, rfl, run_takeDeferred HK'.out, ?_⟩⟩
    refine ⟨.bool false, ?_, ?_, ?_⟩
    · simp [results, Try.f21, go_sem, hc5]
    · rw [HRES.out]
    · exact HBWW.out.trans (belowK_b (w := w) (Nat.le_refl _) _ D _ _ hD' HK'.out rfl rfl)
theorem tsame_any (h : Tab w T p Q most o l) (h2 : Tab w T2 p2 Q2 most2 o2 l2) : Calls Try.prog 21 #[.pointer (some ⟨T, 0, none⟩), .pointer (some ⟨T2, 0, none⟩)] w fun e w' => e = .returned (.bool (sameL l l2)) ∧ Below w.heap.size w w' := by
  by_cases hl : l.length = l2.length
  · exact tsame_eq h h2 hl
  · rw [sameL_len hl]; exact tsame_no h h2 hl
end
end Go.Proofs.Ytlnagdodnkhbmaa
