import Derived.Test.YtlnagdodnkhbmaaGreatUA
import Derived.StillTailTactics
import Derived.WalkMore
import Derived.Lib.BufferWrite
import Derived.Lib.UnsafeStr
import Derived.Laws.MakeOwn
import Derived.OwnWalk
import Derived.Test.YtlnagdodnkhbmaaGreatRA

namespace Go.Proofs.YtlnagdodnkhbmaaGreat
open Go.RowKit Go.Shelf
set_option maxRecDepth 100000
attribute [local go_sem] Oper.semAt_some

theorem elem158 : Tryz.prog.elem 158 = 162 := by kernel_rfl
theorem run_size162 (W : World) : (sizeOf 162).run Tryz.prog W = .ok 2 W := by kernel_rfl
theorem cutS_to (W : World) (A : Option Addr) (len cap h : Nat) (hh : h ≤ cap) : (Instr.slice 158 (.slice A len cap) none (some (.int .i64 (h : Int))) none).run Tryz.prog W = .ok (sliced A 0 h cap 2) W := by
  have e := run_slice_h (P := Tryz.prog) (w := W) 158 A len cap (by rw [elem158]; exact Tryz.underlying158) .i64 (h : Int) (by omega) (by omega)
  rw [elem158, run_size162] at e
  simpa [Result.andThen] using e

/-- What turn leaves. -/
structure TurnEnd (P : Bl) (w w' : World) (p o n : Nat) (r : Nat × T) : Prop where
  os : w'.os = w.os
  tape : w'.tape = w.tape
  output : w'.output = w.output
  size : w.heap.size ≤ w'.heap.size
  block : ∀ b, b < w.heap.size → b ≠ p → w'.heap[b]? = w.heap[b]?
  tree : ∃ g, TreeC w' p o n g ∧ NodeAt (New P w w') w' r.1 g r.2

theorem bwd_get {ss : List (Nat × Nat)} {pre : List (Nat × (Nat × Nat))} {x : Nat × (Nat × Nat)} (h : pre ++ [x] <+: bwd ss) : ∃ j s, j + 1 + pre.length = ss.length ∧ ss[j]? = some s ∧ x = (j, s) := by
  have hl := h.length_le
  rw [bwd_len] at hl
  simp at hl
  obtain ⟨s, hs⟩ : ∃ s, ss[ss.length - 1 - pre.length]? = some s := ⟨ss[ss.length - 1 - pre.length]'(by omega), List.getElem?_eq_getElem _⟩
  refine ⟨ss.length - 1 - pre.length, s, by omega, hs, ?_⟩
  have h1 := bwd_at (show ss.length - 1 - pre.length + 1 + pre.length = ss.length by omega) hs
  obtain ⟨t, ht⟩ := h
  rw [← ht] at h1
  simp at h1
  exact h1

/-- The root's block, read off the tree's own. -/
def rootG (p : Nat) (w : World) : Nat := match w.cell? ⟨p, 2, none⟩ with
  | some (.pointer (some a)) => a.block
  | _ => 0
theorem rootG_eq {w : World} {p o n g : Nat} (h : TreeC w p o n g) : rootG p w = g := by unfold rootG; rw [h.c2']
theorem parts_full {o h lo hi : Nat} {t : T} (ht : Ok o h lo hi t) : (partsT o t).2.length = (partsT o t).1.length + 1 ∧ ∀ k ∈ (partsT o t).2, Full h k := by
  unfold partsT
  split
  · refine ⟨rfl, fun k hk => ?_⟩
    simp at hk
    subst hk
    exact ht.full
  · refine ⟨?_, fun k hk => ?_⟩
    · rw [List.length_take, List.length_drop]; simp; omega
    · simp at hk
      rcases hk with rfl | rfl
      · exact (part_ok ht (a := 0) (b := t.ps.length / 2) (Nat.zero_le _) (by omega)).full
      · exact (part_ok ht (a := t.ps.length / 2 + 1) (b := t.ps.length) (by omega) (Nat.le_refl _)).full
theorem cellPast' {w : World} {a : Addr} {v : Value} (o : Obj) (h : w.cell? a = some v) : (w.alloc o).cell? a = some v := below_keep ((Below.refl _ w).alloc (Nat.le_refl _) o) _ _ h
/-- Between two rounds of turn's loop. -/
def TI (P : Bl) (w : World) (B p o H m : Nat) (path : List (T × Nat)) (kid : T) (pre : List (Nat × (Nat × Nat))) (K : Bl) (W : World) : Prop :=
  Below w.heap.size w W ∧ B ≤ W.heap.size ∧ W.cell? ⟨w.heap.size, 0, none⟩ = some (.pointer (some ⟨p, 0, none⟩)) ∧
  ∃ (Q : Bl) (g : Nat), One W (w.heap.size + 1) 155 (.pointer (some ⟨g, 0, none⟩)) ∧ NodeAt Q W (H - m + pre.length) g (upT o (path.drop (m - pre.length)) kid) ∧ Under Q W ∧ (∀ b, Q b → P b ∨ B ≤ b) ∧
    (∀ b, K b → b < W.heap.size ∧ b ≠ w.heap.size + 1 ∧ (B ≤ b → ¬ Q b))
theorem ti_abide (P : Bl) (w : World) (B p o H m : Nat) (path : List (T × Nat)) (kid : T) (hB : w.heap.size + 2 ≤ B) (_hu : Under P w) : Abide B (TI P w B p o H m path kid) := by
  rintro s K A A' row ⟨h1, h2, h3, Q, g, h4, h5, h6, h7, h8⟩ hg hr K' hK'
  have hst : ∀ b, b < A.heap.size → (∀ r, row = some r → b ≠ r) → A'.heap[b]? = A.heap[b]? := fun b hb hn => hg.block b hb fun e => hn b e.symm rfl
  refine ⟨h1.grown hg h1.size (fun r e => by have := (hr r e).1; omega), Nat.le_trans h2 hg.size, (World.cell?_of_block (hst _ (blk_lt h3) fun r e => ?_)).trans h3, Q, g, h4.keep (hst _ h4.lt fun r e => ?_), NodeAt.keep (fun b hb => hst b (h6 b hb) fun r e e' => ?_) h5, h6.later hg.size, h7, fun b hb => ?_⟩
  · have := (hr r e).1; show w.heap.size ≠ r; omega
  · have := (hr r e).1; omega
  · subst e'
    exact (h8 b (hr b e).2).2.2 (hr b e).1 hb
  · rcases hK' b hb with hk | hk
    · obtain ⟨q1, q2, q3⟩ := h8 b hk
      exact ⟨Nat.lt_of_lt_of_le q1 hg.size, q2, q3⟩
    · exact ⟨hk.2, by have := h4.lt; omega, fun _ hq => by have := h6 b hq; omega⟩

set_option maxHeartbeats 4000000 in
theorem turn_any (w : World) (P : Bl) (p o n g H gk m : Nat) (A : Option Addr) (cap : Nat) (ss : List (Nat × Nat)) (last : Nat × Nat) (path : List (T × Nat)) (kid : T)
    (hc : TreeC w p o n g) (h2 : 2 ≤ o) (h16 : o ≤ 16) (hm : m = ss.length) (hv : Elems 2 cS w (.slice A (m + 1) cap) (ss ++ [last])) (hp : PathAt P w o H ss path) (hu : Under P w) (hP : ¬ P p)
    (hkn : NodeAt P w (H - ss.length) gk kid) (hk : Ok o (H - ss.length) (if ss.length = 0 then 0 else o - 2) (2 * o) kid) (hH : H ≤ 5000) :
    Calls Tryz.prog 112 #[.pointer (some ⟨p, 0, none⟩), .slice A (m + 1) cap, .pointer (some ⟨gk, 0, none⟩)] w fun e w' => (∃ v, e = .returned v) ∧ TurnEnd P w w' p o n (rootT o H (upT o path kid)) := by
  obtain ⟨As, hAs⟩ : ∃ As, sliced A 0 m cap 2 = .slice As m cap := ⟨_, rfl⟩
  have hcap := hv.cap
  have hcut : ∀ W, (Instr.slice 158 (.slice A (m + 1) cap) none (some (.int .i64 (m : Int))) none).run Tryz.prog W = .ok (.slice As m cap) W := fun W => by rw [← hAs]; exact cutS_to W A (m + 1) cap m (by simp at hcap; omega)
  have HVS : Hid (Elems 2 cS w (.slice As m cap) ss) := by
    have := hv.to_ cS_len (m := m) (by simp; omega)
    rw [hAs, hm, List.take_left'  rfl] at this
    rw [hm]; exact this
  have HWF : Hid (∀ b ∈ ownFoot (.slice As ss.length cap), b < w.heap.size) := fun b hb => by
    obtain ⟨ad, hA, hcell⟩ := hv.cell cS_len (i := ss.length) (j := 0) (a := last) (u := .pointer (some ⟨last.1, 0, none⟩)) (by rw [List.getElem?_append_right (Nat.le_refl _)]; simp) rfl
    have hlt := blk_lt hcell
    rw [add_blk] at hlt
    subst hA
    unfold sliced at hAs
    injection hAs with hAs
    rw [← hAs, mem_ownFoot] at hb
    split at hb
    · simp [Value.ownBlock] at hb; omega
    · simp [Value.ownBlock, add_blk] at hb; omega
  have hm300 : m ≤ 5000 := by have := hp.deep; omega
  have hlw : IntKind.i64.wrap ((m : Int) + 1 - 1) = (m : Int) := by rw [wrap_ok (by omega) (by omega)]; omega
  have hlw2 : IntKind.i64.wrap (m : Int) = (m : Int) := wrap_ok (by omega) (by omega)
  obtain ⟨W0, HW0⟩ : ∃ W0, Hid (W0 = (w.alloc (.cells #[.pointer (some ⟨p, 0, none⟩)] 104)).alloc (.cells #[.pointer (some ⟨gk, 0, none⟩)] 155)) := ⟨_, rfl⟩
  have HB0 : Hid (Below w.heap.size w W0) := by rw [HW0.out]; exact ((Below.refl _ w).alloc (Nat.le_refl _) _).alloc (by simp) _
  have HS0 : Hid (W0.heap.size = w.heap.size + 2) := by show _ = _; rw [HW0.out]; simp
  have HM := hid hm
  have HC := hid hc
  have HP := hid hp
  have HU := hid hu
  have HNP := hid hP
  have HKN := hid hkn
  have HK := hid hk
  have HOB : Hid (2 ≤ o ∧ o ≤ 16 ∧ H ≤ 5000) := ⟨h2, h16, hH⟩
  clear hAs hcap hv hm hc hp hu hP hkn hk h2 h16 hH
  refine (callsIn_wide (n := 3)).1 ?_
  refine callsIn_of_wp_marks Tryz.func112 rfl trivial ?_ rfl
  simp only [Tryz.ntmps112, List.size_toArray, List.length_cons, List.length_nil, Nat.reduceAdd, Nat.reduceSub, Array.replicate_succ, Array.replicate_zero, List.push_toArray, List.append_toArray, List.nil_append, List.cons_append]
  gi_wp2_with (refine ⟨trivial, ?_⟩; gi_at_call 131; refine (callsIn_wide.2 (backward_any _ As m cap)).mono ?_; rintro e w1 ⟨rfl, rfl⟩)
  rw [← HW0.out]
  obtain ⟨wL, HWL⟩ : ∃ wL, Hid (wL = W0.alloc (.cells #[.slice As m cap] 158)) := ⟨_, rfl⟩
  have HBL : Hid (Below w.heap.size w wL) := by rw [HWL.out]; exact HB0.out.alloc HB0.out.size _
  have HSL : Hid (wL.heap.size = w.heap.size + 3) := by show _ = _; rw [HWL.out]; simp [HS0.out]
  have HBX : Hid (wL.cell? ⟨w.heap.size + 1 + 1, 0, none⟩ = some (.slice As m cap)) := by
    show _ = _
    rw [HWL.out]
    have := cell_of_row _ _ 0 _ _ _ (heap_alloc_new W0 (.cells #[.slice As m cap] 158))
    rw [HS0.out] at this
    exact this
  have HB3 : Hid (wL.cell? ⟨w.heap.size, 0, none⟩ = some (.pointer (some ⟨p, 0, none⟩))) := by
    show _ = _
    rw [HWL.out, HW0.out]
    exact cellPast' _ (cellPast' _ (cell_of_row _ _ 0 _ _ _ (heap_alloc_new w _)))
  have HB5 : Hid (One wL (w.heap.size + 1) 155 (.pointer (some ⟨gk, 0, none⟩))) := by
    rw [HWL.out, HW0.out]
    have := One.new (w.alloc (.cells #[.pointer (some ⟨p, 0, none⟩)] 104)) 155 (.pointer (some ⟨gk, 0, none⟩))
    rw [World.size_alloc] at this
    exact this.alloc _
  rw [← HWL.out]
  have hAb := ti_abide P w wL.heap.size p o H m path kid (by have := HSL.out; omega) HU.out
  refine range_own (gf := 150) (lb := #[.pointer (some ⟨w.heap.size + 1 + 1, 0, none⟩)]) rfl (enters_of Tryz.func150 (by kernel_rfl) rfl)
    (backward_gives wL As cap (w.heap.size + 1 + 1) ss (by rw [← HM.out]; exact HVS.out.below HBL.out) (by rw [← HM.out]; exact HBX.out) (by have := HM.out; omega)) (Stay.refl _ _) (fun _ => rfl)
    (TI P w wL.heap.size p o H m path kid) (fun _ _ _ _ => False) hAb (fun _ _ _ _ _ _ h _ _ _ _ => h) _ (fun _ h => h) ?lt ?start ?round ?done ?stop
  case lt =>
    intro b hb
    rcases hb with rfl | hb
    · have := HSL.out; omega
    · exact Nat.lt_of_lt_of_le (HWF.out b hb) HBL.out.size
  case start =>
    refine ⟨HBL.out, Nat.le_refl _, HB3.out, P, gk, HB5.out, ?_, HU.out.later HBL.out.size, fun b hb => .inl hb, fun b hb => ?_⟩
    · rw [List.length_nil, Nat.add_zero, Nat.sub_zero, HM.out, show path.drop ss.length = [] by rw [HP.out.len, List.drop_length]]
      exact NodeAt.keep (HU.out.stay HBL.out) HKN.out
    · rcases hb with rfl | hb
      · have := HSL.out
        exact ⟨by omega, by omega, fun _ => by omega⟩
      · have := HWF.out b hb
        have := HSL.out
        exact ⟨by omega, by omega, fun _ => by omega⟩
  case round =>
    intro l pre x K W mm hti hKW hKl hl hpre
    obtain ⟨j, ⟨sg, sa⟩, hj, hs, rfl⟩ := bwd_get hpre
    unfold encB
    gi_wp2
    have hg1 : W.grownBy (W.alloc (.cells #[.pointer (some ⟨sg, 0, none⟩), .int .i64 (sa : Int)] 162)) none := World.grownBy_alloc W _ none
    refine ⟨Stay.grown hg1 hKW (fun _ e => by cases e), fun W2 hg2 => ?_⟩
    have hlW := hKW l hKl
    have hti2 : TI P w wL.heap.size p o H m path kid pre K W2 := hAb _ _ _ _ _ (hAb _ _ _ _ _ hti hg1 (fun _ e => by cases e) K fun b hb => .inl hb) hg2 (fun r e => by injection e with e; subst e; exact ⟨hl, hKl⟩) K fun b hb => .inl hb
    have hs2 : W.heap.size ≤ W2.heap.size := Nat.le_trans hg1.size hg2.size
    have hsx : W.heap.size < W2.heap.size := by have := hg2.size; simp at this; omega
    have d0 : W2.cell? ⟨W.heap.size, 0, none⟩ = some (.pointer (some ⟨sg, 0, none⟩)) := (World.cell?_of_block (hg2.block _ (by simp) (by simp; omega))).trans (cell_of_row _ _ 0 _ _ _ (heap_alloc_new W _))
    have d1 : W2.cell? ⟨W.heap.size, 0 + 1, none⟩ = some (.int .i64 (sa : Int)) := (World.cell?_of_block (hg2.block _ (by simp) (by simp; omega))).trans (cell_of_row _ _ 1 _ _ _ (heap_alloc_new W _))
    obtain ⟨q1, q2, q3, Q, gn, q4, q5, q6, q7, q8⟩ := hti2
    have b5 := q4.cell
    have b5f := q4.frozen
    obtain ⟨x, hx⟩ : ∃ x, path[j]? = some x := ⟨path[j]'(by have := HP.out.len; omega), List.getElem?_eq_getElem _⟩
    obtain ⟨x1, x2, x3, x4⟩ := HP.out.node j _ x hs hx
    have hd := HP.out.deep
    have hmm := HM.out
    obtain ⟨Q2, HQ2⟩ : ∃ Q2 : Bl, Hid (Q2 = fun b => P b ∨ Q b) := ⟨_, rfl⟩
    have eh : H - j = H - m + pre.length + 1 := by omega
    rw [eh] at x2 x4
    have hup := up_ok HOB.out.1 HP.out HK.out pre.length (by omega)
    rw [if_neg (by omega), ← hmm] at hup
    have hlo := x4.len
    have hab := above_any W2 Q2 (H - m + pre.length) p o sg x.2 gn x.1 _ (below_keep q1 _ _ HC.out.c0) HOB.out.1 HOB.out.2.1 (NodeAt.mono (fun b hb => by rw [HQ2.out]; exact .inl hb) (NodeAt.keep (HU.out.stay q1) x2)) (NodeAt.mono (fun b hb => by rw [HQ2.out]; exact .inr hb) q5)
      (fun b hb => by rw [HQ2.out] at hb; exact hb.elim (HU.out.later q1.size b) (q6 b)) x4 (by have := HOB.out.2.1; omega) x3 (by have := HOB.out.1; split at hlo <;> omega) hup
    rw [← x1] at hab
    have HAB := hid hab
    have HUS := hid (up_step (o := o) (kid := kid) hx)
    have HKW := hid hKW
    have HQ1 := hid q1
    have HQ2s := hid q2
    have HQ6 := hid q6
    have HQ7 := hid q7
    have HQ8 := hid q8
    have HQ4 := hid q4
    have HX1 := hid x1
    clear hab q1 q5 q6 q7 q8 x1 x2 x3 x4 hup hlo hti hKW hAb hg1 hg2 hs hx hd hpre q4 q2 eh hmm
    gi_wp2_with (refine ⟨trivial, fun h => (by cases h), ?_⟩; gi_at_call 138; refine (CallsIn.inRound l (callsIn_wide.2 HAB.out)).mono ?_; rintro e W3 ⟨g', rfl, hb3, hn3⟩; have b5' := below_keep hb3 _ _ b5; have b5f' := (hb3.frozen (p := ⟨w.heap.size + 1, 0, none⟩) (blk_lt b5)).trans b5f; have HB3' := hid hb3; have HN3 := hid hn3; clear hb3 hn3)
    have hb3 := HB3'.out
    have hm := HM.out
    have hsl := HSL.out
    have hK5 : ∀ b, K b → b ≠ w.heap.size + 1 := fun b hb => (HQ8.out b hb).2.1
    have hfar : ∀ b, b ≠ w.heap.size + 1 → (W3.setCell ⟨w.heap.size + 1, 0, none⟩ (.pointer (some ⟨g', 0, none⟩))).heap[b]? = W3.heap[b]? := fun b hb => Below.heap_setCell _ _ _ _ hb
    have hsz3 : (W3.setCell ⟨w.heap.size + 1, 0, none⟩ (.pointer (some ⟨g', 0, none⟩))).heap.size = W3.heap.size := by simp [World.setCell]
    have hQb : ∀ b, New Q2 W2 W3 b → P b ∨ wL.heap.size ≤ b := fun b hb => by
      rcases hb with hb | hb
      · rw [HQ2.out] at hb
        exact hb.elim .inl (HQ7.out b)
      · exact .inr (Nat.le_trans HQ2s.out hb.1)
    have hQ5 : ∀ b, New Q2 W2 W3 b → b ≠ w.heap.size + 1 := fun b hb => by
      rcases hQb b hb with hb | hb
      · have := HU.out b hb; omega
      · omega
    show Stay K W2 _ ∧ TI P w wL.heap.size p o H m path kid (pre ++ [(j, sg, sa)]) K _
    refine ⟨⟨by rw [hsz3]; exact hb3.size, fun b hb => (hfar b (hK5 b hb)).trans (hb3.block b (HQ8.out b hb).1)⟩, ?_, by rw [hsz3]; exact Nat.le_trans HQ2s.out hb3.size, ?_, New Q2 W2 W3, g', (HQ4.out.keep (hb3.block _ HQ4.out.lt)).set _, ?_, ?_, hQb, fun b hb => ?_⟩
    · exact (below_step HQ1.out hb3).setCell (p := ⟨w.heap.size + 1, 0, none⟩) (by show w.heap.size ≤ w.heap.size + 1; omega) _
    · exact (World.cell?_of_block (hfar w.heap.size (by omega))).trans (below_keep hb3 _ _ q3)
    · have e1 : H - m + (pre ++ [(j, sg, sa)]).length = H - m + pre.length + 1 := by simp; omega
      have e2 : m - (pre ++ [(j, sg, sa)]).length = j := by simp; omega
      have e3 : m - pre.length = j + 1 := by omega
      rw [e1, e2, HUS.out, ← e3, ← HX1.out]
      exact NodeAt.keep (fun b hb => hfar b (hQ5 b hb)) HN3.out
    · intro b hb
      rw [hsz3]
      rcases hb with hb | hb
      · rw [HQ2.out] at hb
        exact Nat.lt_of_lt_of_le (hb.elim (HU.out.later HQ1.out.size b) (HQ6.out b)) hb3.size
      · exact hb.2
    · obtain ⟨y1, y2, y3⟩ := HQ8.out b hb
      refine ⟨by rw [hsz3]; exact Nat.lt_of_lt_of_le y1 hb3.size, y2, fun hle hq => ?_⟩
      rcases hq with hq | hq
      · rw [HQ2.out] at hq
        rcases hq with hq | hq
        · have := HU.out b hq
          have := HBL.out.size
          omega
        · exact y3 hle hq
      · omega
  case done =>
    intro D K W hti hK0 hKD hlD hsh
    obtain ⟨q1, q2, q3, Q, gn, q4, q5, q6, q7, q8⟩ := hti
    have b5 := q4.cell
    have hm := HM.out
    have hup := up_ok HOB.out.1 HP.out HK.out m (by omega)
    rw [← hm, Nat.sub_self, List.drop_zero] at hup
    rw [bwd_len, ← hm, Nat.sub_self, List.drop_zero, show H - m + m = H by have := HP.out.deep; omega] at q5
    rw [show H - m + m = H by have := HP.out.deep; omega] at hup
    obtain ⟨U, HUU⟩ : ∃ U, Hid (U = upT o path kid) := ⟨_, rfl⟩
    rw [← HUU.out] at q5 hup
    have hpl : p < w.heap.size := HC.out.lt
    have hsl := HSL.out
    have hpQ : ¬ Q p := fun h => by
      rcases q7 p h with h | h
      · exact HNP.out h
      · omega
    have hTW : TreeC W p o n g := HC.out.keep (q1.block p hpl)
    have hpar := parts_any W Q H gn p o U hTW.c0 HOB.out.1 HOB.out.2.1 q5 q6 (by have := hup.len; have := HOB.out.2.1; omega) hup.arity
    have HPAR := hid hpar
    have HQ1 := hid q1
    have HQ6 := hid q6
    have HQ7 := hid q7
    have HTW := hid hTW
    have HUP := hid hup
    have HSH := hid hsh
    have HDL : Hid (wL.heap.size ≤ D ∧ ¬ Q D) := ⟨hlD, (q8 D hKD).2.2 hlD⟩
    have Q3 := hid q3
    clear hpar q1 q5 q6 q7 q8 hup hTW hAb hK0 hsh q2 hKD hm
    gi_wp2_with (refine ⟨trivial, ?_⟩; gi_at_call 139; refine (callsIn_wide.2 HPAR.out).mono ?_; rintro e W4 ⟨vb, vk, rfl, hb4, hlb, gp, hlg, hsd⟩; obtain ⟨Ab, nb, cb, rfl⟩ := hlb.1.form; obtain ⟨As', ns, cs, rfl⟩ := hlg.1.form; have t4 := HTW.out.keep (hb4.block p HTW.out.lt); have t5 := t4.alloc (.cells #[.slice Ab nb cb, .slice As' ns cs] 168); have f4 := t5.f 2; have p2 := t5.c2'; have HT5 := hid t5; have q3' := below_keep hb4 _ _ Q3.out; have HB4 := hid hb4; have HT4 := hid t4; have HLB := hid hlb; have HLG := hid hlg; have HSD := hid hsd; clear hb4 hlb hlg hsd t4 t5)
    obtain ⟨W5, HW5⟩ : ∃ W5, Hid (W5 = (W4.alloc (.cells #[.slice Ab nb cb, .slice As' ns cs] 168)).setCell ⟨p, 2, none⟩ (.pointer (some ⟨W4.heap.size, 0, none⟩))) := ⟨_, rfl⟩
    obtain ⟨Q5, HQ5⟩ : ∃ Q5 : Bl, Hid (Q5 = New (New Q W W4) W4 (W4.alloc (.cells #[.slice Ab nb cb, .slice As' ns cs] 168))) := ⟨_, rfl⟩
    have hb45 : Below W4.heap.size W4 (W4.alloc (.cells #[.slice Ab nb cb, .slice As' ns cs] 168)) := (Below.refl _ W4).alloc (Nat.le_refl _) _
    have hu4 : Under (New Q W W4) W4 := HQ6.out.new HB4.out.size
    have hpW : p < W.heap.size := HTW.out.lt
    have hQ5p : ¬ Q5 p := fun h => by
      rw [HQ5.out] at h
      rcases h with (h | h) | h
      · exact hpQ h
      · omega
      · have := HB4.out.size; omega
    have hfar5 : ∀ b, b ≠ p → W5.heap[b]? = (W4.alloc (.cells #[.slice Ab nb cb, .slice As' ns cs] 168)).heap[b]? := fun b hb => by rw [HW5.out]; exact Below.heap_setCell _ _ _ _ hb
    have hsz5 : W5.heap.size = W4.heap.size + 1 := by rw [HW5.out]; simp [World.setCell]
    have HT : Hid (TreeC W5 p o n W4.heap.size) := by rw [HW5.out]; exact HT5.out.root _
    have HN5 : Hid (NodeAt Q5 W5 (H + 1) W4.heap.size (.nd (partsT o U).1 (partsT o U).2)) := by
      refine NodeAt.keep (w := W4.alloc (.cells #[.slice Ab nb cb, .slice As' ns cs] 168)) (fun b hb => hfar5 b fun e => hQ5p (e ▸ hb)) ?_
      rw [HQ5.out]
      exact ⟨_, _, gp, hd_new (New Q W W4) _ _ HLB.out HLG.out hu4, HSD.out.imp fun _ _ hn => NodeAt.mono (fun _ h => .inl h) (NodeAt.keep (hu4.stay hb45) hn)⟩
    have HF5 : Hid (Full (H + 1) (.nd (partsT o U).1 (partsT o U).2)) := by
      show _ ∧ _
      exact parts_full HUP.out
    have HX5 : Hid (W5.cell? ⟨w.heap.size, 0, none⟩ = some (.pointer (some ⟨p, 0, none⟩))) := (World.cell?_of_block (hfar5 w.heap.size (by omega))).trans (cellPast' _ q3')
    have HD5 : Hid (Shut W5 D) := by
      have h1 : W4.heap[D]? = W.heap[D]? := HB4.out.block D (Array.getElem?_eq_some_iff.1 HSH.out).1
      refine (hfar5 D (by have := HDL.out.1; omega)).trans ((Below.heap_alloc W4 _ D ?_).trans (h1.trans HSH.out))
      exact Nat.lt_of_lt_of_le (Array.getElem?_eq_some_iff.1 HSH.out).1 HB4.out.size
    have HC5 : Hid (Chg [p] w W5 [p]) := by
      refine (Chg.of_below (F := [p]) ((HQ1.out.trans (HB4.out.mono HQ1.out.size)).trans (hb45.mono (Nat.le_trans HQ1.out.size HB4.out.size)))).trans ?_
      rw [HW5.out]
      exact (Chg.refl [p] _).setCell (p := ⟨p, 2, none⟩) (by simp) _
    have HQ5b : Hid (∀ b, Q5 b → New P w W5 b) := fun b hb => by
      rw [HQ5.out] at hb
      have e1 := HB4.out.size
      have e2 := HQ1.out.size
      have e4 := HBL.out.size
      have e3 : (W4.alloc (.cells #[.slice Ab nb cb, .slice As' ns cs] 168)).heap.size = W4.heap.size + 1 := by simp
      rcases hb with (hb | hb) | hb
      · rcases HQ7.out b hb with h | h
        · exact .inl h
        · have := HQ6.out b hb
          exact .inr ⟨by omega, by omega⟩
      · exact .inr ⟨by omega, by omega⟩
      · exact .inr ⟨by omega, by omega⟩
    have HQ5p := hid hQ5p
    rw [← HW5.out]
    clear hb45 hu4 hfar5 hQ5p q3' p2 f4 b5 q4 Q3 hpQ
    gi_loopw [] (fun wr => ∃ h' g' t', TreeC wr p o n g' ∧ NodeAt Q5 wr h' g' t' ∧ Full h' t' ∧ collT h' t' = collT (H + 1) (.nd (partsT o U).1 (partsT o U).2) ∧ h' ≤ H + 1 ∧ Chg [p] W5 wr [p]) (fun wr => lefts 9000 wr (rootG p wr))
    case atStart => exact ⟨H + 1, _, _, HT.out, HN5.out, HF5.out, rfl, Nat.le_refl _, Chg.refl _ _⟩
    case round =>
      obtain ⟨h', g', t', ht, hn, hf, hcl, hle, hch⟩ := hrel
      obtain ⟨vp, vk, gs, hh, hs⟩ := nodeAt_iff.1 hn
      obtain ⟨Ap, capp, rfl⟩ := hh.pairs.slice
      obtain ⟨Ak, capk, rfl⟩ := hh.kids.slice
      have c0 := hh.c0
      have c1 := hh.c1'
      have hl := lefts_eq h' 9000 g' t' hn hf (by have := HOB.out.2.2; omega)
      have hrg := rootG_eq ht
      have hx3 : wr.cell? ⟨w.heap.size, 0, none⟩ = some (.pointer (some ⟨p, 0, none⟩)) := (World.cell?_of_block (hch.block w.heap.size (blk_lt HX5.out) (by simp; omega))).trans HX5.out
      have r2 := ht.c2'
      have r2f := ht.f 2
      have hdr := hch.block D (Array.getElem?_eq_some_iff.1 HD5.out).1 (by simp; have := HDL.out.1; omega)
      have HFIN : Hid (∀ fnn tmps, fnn = Tryz.f112 → (h', t') = collT (H + 1) (.nd (partsT o U).1 (partsT o U).2) → LeavesInM Fence.wide 3 Tryz.prog fnn tmps (fun e w' => (∃ v, e = .returned v) ∧ TurnEnd P w w' p o n (rootT o H (upT o path kid))) ([D].map mark) .returning wr) := by
        rintro fnn tmps rfl heq
        refine leaves_marks [D] wr (by simp) (fun E hE => ?_) fun w' hk hsz ho hta hou => ?_
        · simp at hE
          subst hE
          exact hdr.trans HD5.out
        · have hQ5D : ¬ Q5 D := fun h => by
            have := HDL.out
            rw [HQ5.out] at h
            have hdW := (Array.getElem?_eq_some_iff.1 HSH.out).1
            rcases h with (h | h) | h
            · exact HDL.out.2 h
            · omega
            · have := HB4.out.size; omega
          refine ⟨_, results_none rfl _ _ _, ⟨_, rfl⟩, ho.trans (hch.os.trans HC5.out.os), hta.trans (hch.tape.trans HC5.out.tape), hou.trans (hch.output.trans HC5.out.output), by rw [hsz]; exact Nat.le_trans HC5.out.size hch.size, fun b hb hbp => ?_, g', ht.keep (hk p (by simp; have := HDL.out.1; omega)), ?_⟩
          · rw [hk b (by simp; have := HDL.out.1; omega), hch.block b (Nat.lt_of_lt_of_le hb HC5.out.size) (by simp; exact hbp), HC5.out.block b hb (by simp; exact hbp)]
          · unfold rootT
            rw [← HUU.out, ← heq]
            exact NodeAt.mono (fun b hb => New.later (by rw [hsz]; exact hch.size) (HQ5b.out b hb)) (NodeAt.keep (fun b hb => hk b (by simp; exact fun e => hQ5D (e ▸ hb))) hn)
      have HN := hid hn
      have HT' := hid ht
      have HF' := hid hf
      have HCL := hid hcl
      have HCH := hid hch
      have HHH := hid hh
      have HSS := hid hs
      have HLL : Hid (lefts 9000 wr (rootG p wr) = h') := by show _ = _; rw [hrg, hl]
      clear hl hrg hn ht hf hcl hch hh hs hdr
      by_cases h0 : t'.ps.length = 0
      · rw [h0] at c0
        have e0 : t'.ps = [] := List.eq_nil_of_length_eq_zero h0
        cases h' with
        | zero =>
          have hg0 : gs.length = 0 := by rw [HSS.out.1, show t'.ks = [] from HF'.out]; rfl
          rw [hg0] at c1
          have HE : Hid ((0, t') = collT (H + 1) (.nd (partsT o U).1 (partsT o U).2)) := HCL.out
          clear hg0 h0 e0
          gi_wp2
          exact HFIN.out _ _ rfl HE.out
        | succ h'' =>
          obtain ⟨k, hk⟩ : ∃ k, t'.ks[0]? = some k := ⟨t'.ks[0]'(by have := HF'.out.1; omega), List.getElem?_eq_getElem _⟩
          obtain ⟨g0, hg0, hn0⟩ := Side.at_ HSS.out hk
          obtain ⟨ad, rfl, r0⟩ := HHH.out.kids.kcell hg0
          rw [add_zero'] at r0
          have hgl : gs.length = 1 := by rw [HSS.out.1, HF'.out.1, h0]
          rw [hgl] at c1
          have HK0 := hid hk
          have HN0 := hid hn0
          have HE0 := hid e0
          clear hgl h0 e0 hk hg0 hn0
          gi_wp2
          refine wpIn_wide.2 ?_
          go_still_tail 12, (by kernel_rfl)
          change wpList _ _ _ _ _ wr.drew
          have r2 : wr.drew.cell? ⟨p, 2, none⟩ = some (.pointer (some ⟨g', 0, none⟩)) := r2
          have r2f : wr.drew.frozen? ⟨p, 2, none⟩ = false := r2f
          go_wp2
          go_roundw
          case rel =>
            have hcd : Chg [p] wr (wr.drew.setCell ⟨p, 2, none⟩ (.pointer (some ⟨g0, 0, none⟩))) [p] := ((Chg.refl [p] wr).drew).setCell (p := ⟨p, 2, none⟩) (by simp) _
            refine ⟨h'', g0, k, HT'.out.root g0, NodeAt.keep (fun b hb => ?_) HN0.out, HF'.out.2 k (List.mem_of_getElem? HK0.out), ?_, by omega, HCH.out.trans hcd⟩
            · exact Below.heap_setCell _ _ _ _ (fun e => HQ5p.out (by rw [← show b = p from e]; exact hb))
            · rw [← HCL.out]
              show _ = if t'.ps = [] then _ else _
              rw [if_pos HE0.out]
              have hk := HK0.out
              cases hks : t'.ks with
              | nil => rw [hks] at hk; cases hk
              | cons x xs => rw [hks] at hk; simp at hk; rw [hk]
          case measure =>
            have hroot : TreeC ((wr.setCell ⟨p, 2, none⟩ (.pointer (some ⟨g0, 0, none⟩))).drew) p o n g0 := HT'.out.root g0
            have hn1 : NodeAt Q5 ((wr.setCell ⟨p, 2, none⟩ (.pointer (some ⟨g0, 0, none⟩))).drew) h'' g0 k := NodeAt.keep (w := wr) (w' := (wr.setCell ⟨p, 2, none⟩ (.pointer (some ⟨g0, 0, none⟩))).drew) (fun b hb => Below.heap_setCell wr ⟨p, 2, none⟩ (.pointer (some ⟨g0, 0, none⟩)) b (fun e => HQ5p.out (by rw [← show b = p from e]; exact hb))) HN0.out
            rw [HLL.out, rootG_eq hroot, lefts_eq h'' 9000 g0 k hn1 (HF'.out.2 k (List.mem_of_getElem? HK0.out)) (by have := HOB.out.2.2; omega)]
            omega
      · have hi0 : ¬ (t'.ps.length : Int) = 0 := by omega
        have HE : Hid ((h', t') = collT (H + 1) (.nd (partsT o U).1 (partsT o U).2)) := by
          show _ = _
          rw [← HCL.out]
          cases h' with
          | zero => rfl
          | succ h'' => show _ = if t'.ps = [] then _ else _; rw [if_neg (fun e => h0 (by rw [e]; rfl))]
        obtain ⟨n1, HN1⟩ : ∃ n1, Hid (n1 = t'.ps.length) := ⟨_, rfl⟩
        rw [← HN1.out] at c0 hi0
        clear h0
        gi_wp2
        exact HFIN.out _ _ rfl HE.out
  case stop => exact fun _ _ _ _ _ _ h => h.elim
end Go.Proofs.YtlnagdodnkhbmaaGreat

namespace Go.Proofs.YtlnagdodnkhbmaaGreat
open Go.RowKit
set_option maxRecDepth 100000

/-- Keys rise. -/
def Rising (l : List Pr) : Prop := l.Pairwise fun a b => a.1 < b.1
theorem key_lt_trans {a b c : List Nat} (h1 : a < b) (h2 : b < c) : a < c := List.lt_trans h1 h2
/-- Of keys that rise: which are ahead of a key. -/
theorem atN_iff : ∀ {l : List Pr} {k : List Nat}, Rising l → ∀ {i : Nat} {q : Pr}, l[i]? = some q → (q.1 < k ↔ i < atN l k)
  | [], _, _, _, _, h => by simp at h
  | p :: l, k, hr, i, q, h => by
    unfold Rising at hr
    rw [List.pairwise_cons] at hr
    unfold atN
    by_cases hp : p.1 < k
    · rw [if_pos hp]
      cases i with
      | zero => simp at h; subst h; simp [hp]
      | succ i =>
        rw [List.getElem?_cons_succ] at h
        rw [atN_iff hr.2 h]; omega
    · rw [if_neg hp]
      refine ⟨fun hq => ?_, fun h => by omega⟩
      exfalso
      cases i with
      | zero => simp at h; subst h; exact hp hq
      | succ i =>
        rw [List.getElem?_cons_succ] at h
        exact hp (key_lt_trans (hr.1 q (List.mem_of_getElem? h)) hq)

set_option maxHeartbeats 1000000 in
theorem place1_any (w : World) (P : Bl) (h g b2 b3 i : Nat) (t : T) (k : List Nat) (q : Pr) (hn : NodeAt P w h g t) (c2 : w.cell? ⟨b2, 0, none⟩ = some (.pointer (some ⟨g, 0, none⟩))) (c3 : w.cell? ⟨b3, 0, none⟩ = some (.string (str k)))
    (hr : Rising t.ps) (hq : t.ps[i]? = some q) (hqb : Byt q.1) (hkb : Byt k) (_hsz : t.ps.length ≤ 1000) :
    Calls Tryz.prog 144 #[.int .i64 (i : Int), .pointer (some ⟨b2, 0, none⟩), .pointer (some ⟨b3, 0, none⟩)] w fun e w' => e = .returned (.bool (decide (atN t.ps k ≤ i))) ∧ Below w.heap.size w w' := by
  obtain ⟨vp, vk, gs, hh, hs⟩ := nodeAt_iff.1 hn
  obtain ⟨A, cap, rfl⟩ := hh.pairs.slice
  obtain ⟨ad, rfl, p0, p1⟩ := hh.pairs.pcell hq
  have c0 := hh.c0
  have hlt := (List.getElem?_eq_some_iff.1 hq).1
  obtain ⟨n, HN⟩ : ∃ n, Hid (n = t.ps.length) := ⟨_, rfl⟩
  rw [← HN.out] at c0 hlt
  have hlti : (i : Int) < n := by omega
  have hless := less_str hqb hkb
  have HA := hid (atN_iff (k := k) hr hq)
  by_cases hl : q.1 < k
  · simp only [hl, decide_true] at hless
    have HD : Hid (decide (atN t.ps k ≤ i) = false) := by have := HA.out.1 hl; exact decide_eq_false (by omega)
    clear hl hh hs hn hq hr
    go_enter Tryz.func144, Tryz.ntmps144
    go_wp2
    go_quiet (fail)
    go_wp2
    go_ret
    exact ⟨by rw [HD.out]; rfl, below_drewN' (Below.refl _ _) _⟩
  · simp only [hl, decide_false] at hless
    have HD : Hid (decide (atN t.ps k ≤ i) = true) := decide_eq_true (by have := mt HA.out.2 hl; omega)
    clear hl hh hs hn hq hr
    go_enter Tryz.func144, Tryz.ntmps144
    go_wp2
    go_quiet (fail)
    go_wp2
    go_ret
    exact ⟨by rw [HD.out]; rfl, below_drewN' (Below.refl _ _) _⟩
theorem search_any (w : World) (at_ n b2 b3 : Nat) (hat : at_ ≤ n) (hn : n ≤ 1000) (hf : ∀ i, i < n → ∀ w', Below w.heap.size w w' → Calls Tryz.prog 144 #[.int .i64 (i : Int), .pointer (some ⟨b2, 0, none⟩), .pointer (some ⟨b3, 0, none⟩)] w' fun e w2 => e = .returned (.bool (decide (at_ ≤ i))) ∧ Below w'.heap.size w' w2) :
    Calls Tryz.prog 143 #[.int .i64 (n : Int), .func (.func 144) #[] #[.pointer (some ⟨b2, 0, none⟩), .pointer (some ⟨b3, 0, none⟩)]] w fun e w' => e = .returned (.int .i64 (at_ : Int)) ∧ Below w.heap.size w w' := by
  have HF := hid hf
  have hB0 := Below.refl w.heap.size w
  clear hf
  go_enter Tryz.func143, Tryz.ntmps143
  go_wp2
  go_loopw [5, 6] (fun i j wr => ∃ lo hi : Nat, i = .int .i64 lo ∧ j = .int .i64 hi ∧ lo ≤ at_ ∧ at_ ≤ hi ∧ hi ≤ n ∧ Below w.heap.size w wr) (fun i j _ => (intOf j - intOf i).toNat)
  case atStart => exact ⟨0, n, rfl, rfl, Nat.zero_le _, hat, Nat.le_refl _, hB0⟩
  case round =>
    obtain ⟨lo, hi, rfl, rfl, h1, h2, h3, hb⟩ := hrel
    by_cases hlt : lo < hi
    · have hlti : (lo : Int) < hi := by omega
      have hw : IntKind.i64.wrap ((lo : Int) + hi) = ((lo + hi : Nat) : Int) := by rw [wrap_ok (by omega) (by omega)]; omega
      have HB := hid hb
      clear hb
      obtain ⟨m, hm⟩ : ∃ m, m = (lo + hi) / 2 := ⟨_, rfl⟩
      have HMI : Hid (((lo : Int) + hi) / 2 = (m : Int)) := by show _ = _; omega
      have hm1 : lo ≤ m := by omega
      have hm2 : m < hi := by omega
      have hwm : IntKind.i64.wrap ((m : Int) + 1) = (m : Int) + 1 := wrap_ok (by omega) (by omega)
      clear hm
      go_wp2_with fail
      rw [HMI.out]
      by_cases hat2 : at_ ≤ m
      · have hd : decide (at_ ≤ m) = true := decide_eq_true hat2
        refine (HF.out m (by omega) wr HB.out).mono ?_
        rw [hd]
        rintro e w2 ⟨rfl, hb2⟩
        have HB2 := hid hb2
        clear hd hb2
        go_wp2
        go_roundw
        case rel => exact ⟨lo, m, rfl, rfl, h1, hat2, by omega, below_step HB.out HB2.out⟩
        case measure => simp [intOf]; omega
      · have hd : decide (at_ ≤ m) = false := decide_eq_false hat2
        refine (HF.out m (by omega) wr HB.out).mono ?_
        rw [hd]
        rintro e w2 ⟨rfl, hb2⟩
        have HB2 := hid hb2
        clear hd hb2
        go_wp2
        go_roundw
        case rel => exact ⟨m + 1, hi, by go_num, rfl, by omega, h2, h3, below_step HB.out HB2.out⟩
        case measure => simp [intOf]; omega
    · obtain rfl : lo = hi := by omega
      obtain rfl : lo = at_ := by omega
      have HB := hid hb
      go_wp2
      go_ret
      exact ⟨rfl, HB.out⟩

theorem place_any (w : World) (P : Bl) (h g : Nat) (t : T) (k : List Nat) (hn : NodeAt P w h g t) (hu : Under P w) (hr : Rising t.ps) (hb : PByt t.ps) (hkb : Byt k) (hsz : t.ps.length ≤ 1000) :
    Calls Tryz.prog 118 #[.pointer (some ⟨g, 0, none⟩), .string (str k)] w fun e w' => e = .returned (.int .i64 (atN t.ps k : Int)) ∧ Below w.heap.size w w' := by
  have HN := hid hn
  obtain ⟨vp, vk, gs, hh, hs⟩ := nodeAt_iff.1 hn
  obtain ⟨A, cap, rfl⟩ := hh.pairs.slice
  have hb1 : Below w.heap.size w (w.alloc (.cells #[.pointer (some ⟨g, 0, none⟩)] 155)) := (Below.refl _ w).alloc (Nat.le_refl _) _
  have hb0 : Below w.heap.size w ((w.alloc (.cells #[.pointer (some ⟨g, 0, none⟩)] 155)).alloc (.cells #[.string (str k)] 9)) := hb1.alloc (by simp) _
  obtain ⟨W0, HW0⟩ : ∃ W0, Hid (W0 = (w.alloc (.cells #[.pointer (some ⟨g, 0, none⟩)] 155)).alloc (.cells #[.string (str k)] 9)) := ⟨_, rfl⟩
  have HB0 : Hid (Below w.heap.size w W0) := by rw [HW0.out]; exact hb0
  have c0 := (hh.keep (hu.stay HB0.out)).c0
  have d2 : W0.cell? ⟨w.heap.size, 0, none⟩ = some (.pointer (some ⟨g, 0, none⟩)) := by rw [HW0.out]; exact cellPast' _ (cell_of_row _ _ 0 _ _ _ (heap_alloc_new w _))
  have d3 : W0.cell? ⟨w.heap.size + 1, 0, none⟩ = some (.string (str k)) := by
    rw [HW0.out]
    have := cell_of_row _ _ 0 _ _ _ (heap_alloc_new (w.alloc (.cells #[.pointer (some ⟨g, 0, none⟩)] 155)) (.cells #[.string (str k)] 9))
    rwa [World.size_alloc] at this
  have HS : Hid (∀ i, i < t.ps.length → ∀ w', Below W0.heap.size W0 w' → Calls Tryz.prog 144 #[.int .i64 (i : Int), .pointer (some ⟨w.heap.size, 0, none⟩), .pointer (some ⟨w.heap.size + 1, 0, none⟩)] w' fun e w2 => e = .returned (.bool (decide (atN t.ps k ≤ i))) ∧ Below w'.heap.size w' w2) := fun i hi w' hbw => by
    obtain ⟨q, hq⟩ : ∃ q, t.ps[i]? = some q := ⟨t.ps[i], List.getElem?_eq_getElem hi⟩
    exact place1_any w' P h g _ _ i t k q (NodeAt.keep (hu.stay (below_step HB0.out hbw)) HN.out) (below_keep hbw _ _ d2) (below_keep hbw _ _ d3) hr hq (hb q (List.mem_of_getElem? hq)).1 hkb hsz
  have HL : Hid (atN t.ps k ≤ t.ps.length ∧ t.ps.length ≤ 1000) := ⟨atN_le _ _, hsz⟩
  obtain ⟨n, HNN⟩ : ∃ n, Hid (n = t.ps.length) := ⟨_, rfl⟩
  obtain ⟨a, HA⟩ : ∃ a, Hid (a = atN t.ps k) := ⟨_, rfl⟩
  rw [← HNN.out] at c0 HS HL
  rw [← HA.out] at HS HL ⊢
  rw [HW0.out] at c0
  clear hh hs hn hb1 hb0 hr hb hsz d2 d3
  go_enter Tryz.func118, Tryz.ntmps118
  go_wp2_with fail
  rw [← HW0.out]
  refine (search_any W0 a n _ _ HL.out.1 HL.out.2 HS.out).mono ?_
  rintro e w2 ⟨rfl, hb2⟩
  have HB2 := hid (below_step HB0.out hb2)
  clear hb2
  go_wp2
  go_ret
  exact ⟨rfl, HB2.out⟩
end Go.Proofs.YtlnagdodnkhbmaaGreat

namespace Go.Proofs.YtlnagdodnkhbmaaGreat
open Go.RowKit
set_option maxRecDepth 100000

def pathT : Nat → T → List Nat → List (T × Nat)
  | 0, t, k => [(t, atN t.ps k)]
  | h + 1, t, k => (t, atN t.ps k) :: (if (getL t.ps k).isSome = true then [] else match t.ks[atN t.ps k]? with | some t' => pathT h t' k | none => [])
def foundT : Nat → T → List Nat → Bool
  | 0, t, k => (getL t.ps k).isSome
  | h + 1, t, k => if (getL t.ps k).isSome = true then true else match t.ks[atN t.ps k]? with | some t' => foundT h t' k | none => false
/-- Nodes whose keys rise, and are bytes, and are not many. -/
def GoodT : Nat → T → Prop
  | 0, t => Rising t.ps ∧ PByt t.ps ∧ t.ps.length ≤ 100
  | h + 1, t => (Rising t.ps ∧ PByt t.ps ∧ t.ps.length ≤ 100) ∧ ∀ k ∈ t.ks, GoodT h k
theorem GoodT.node {h : Nat} {t : T} (hg : GoodT h t) : Rising t.ps ∧ PByt t.ps ∧ t.ps.length ≤ 100 := by
  cases h with
  | zero => exact hg
  | succ h => exact hg.1
/-- Steps, in memory, of a way. -/
structure WayAt (P : Bl) (w : World) (H : Nat) (ss : List (Nat × Nat)) (path : List (T × Nat)) : Prop where
  len : ss.length = path.length
  deep : ss.length ≤ H + 1
  node : ∀ (j : Nat) (s : Nat × Nat) (x : T × Nat), ss[j]? = some s → path[j]? = some x → s.2 = x.2 ∧ NodeAt P w (H - j) s.1 x.1
theorem WayAt.keep {P : Bl} {w w' : World} {H : Nat} {ss : List (Nat × Nat)} {path : List (T × Nat)} (h : WayAt P w H ss path) (hk : ∀ b, P b → w'.heap[b]? = w.heap[b]?) : WayAt P w' H ss path :=
  ⟨h.len, h.deep, fun j s x h1 h2 => by obtain ⟨q1, q2⟩ := h.node j s x h1 h2; exact ⟨q1, NodeAt.keep hk q2⟩⟩
theorem WayAt.snoc {P : Bl} {w : World} {H g a : Nat} {t : T} {ss : List (Nat × Nat)} {path : List (T × Nat)} (h : WayAt P w H ss path) (hd : ss.length ≤ H) (hn : NodeAt P w (H - ss.length) g t) : WayAt P w H (ss ++ [(g, a)]) (path ++ [(t, a)]) := by
  refine ⟨by simp [h.len], by simp; omega, fun j s x h1 h2 => ?_⟩
  rcases Nat.lt_or_ge j ss.length with hj | hj
  · rw [List.getElem?_append_left hj] at h1
    rw [List.getElem?_append_left (by rw [← h.len]; exact hj)] at h2
    exact h.node j s x h1 h2
  · rw [List.getElem?_append_right hj] at h1
    rw [List.getElem?_append_right (by rw [← h.len]; exact hj)] at h2
    have hl := h.len
    have e : j - ss.length = 0 := by
      have := (List.getElem?_eq_some_iff.1 h1).1
      simp at this; omega
    rw [e] at h1
    rw [show j - path.length = 0 by omega] at h2
    simp at h1 h2
    subst h1; subst h2
    rw [show j = ss.length by omega]
    exact ⟨rfl, hn⟩
def lenV : Value → Nat
  | .slice _ n _ => n
  | _ => 0
theorem Mid.own {α : Type} {sz : Nat} {c : α → List Value} {e : TypeId} {w0 w : World} {v : Value} {l : List α} (h : Mid sz c e w0 [] w v l) (hl : l ≠ []) : OwnElems sz c e w w0.heap.size v l := by
  rcases h.2 with ⟨A, hv, hel, hF⟩ | h
  · exfalso
    cases A with
    | none =>
      obtain ⟨_, A', c', hv', h1, _, hn, _⟩ := hel
      rw [hv] at hv'
      injection hv' with e1 _ e3
      have := hn e1.symm
      exact hl (List.eq_nil_of_length_eq_zero (by omega))
    | some ad => exact absurd (hF ad.block (by rw [hv, mem_ownFoot]; rfl)) (by simp)
  · exact h
theorem Tryz.info162 : (Tryz.prog.info? 162).map (fun i => (i.zero, i.size, i.bytes)) = some (some (.agg #[.pointer none, .int .i64 0]), 2, 16) := by kernel_rfl
theorem elems_step {W : World} {b g a : Nat} {e : TypeId} (h : W.heap[b]? = some (.cells #[.pointer (some ⟨g, 0, none⟩), .int .i64 (a : Int)] e (0, 0))) : Elems 2 cS W (.slice (some ⟨b, 0, none⟩) 1 1) [(g, a)] := elems_one cS_len (a := (g, a)) (e := e) h

theorem beq_str_ne {a b : List Nat} (h : a ≠ b) : a ≠ b := h
/-- Where down stands. -/
structure DownAt (P : Bl) (w : World) (H : Nat) (t : T) (k : List Nat) (d gd : Nat) (td : T) (ssd : List (Nat × Nat)) (pd : List (T × Nat)) : Prop where
  path : pathT H t k = pd ++ pathT (H - d) td k
  found : foundT H t k = foundT (H - d) td k
  len : ssd.length = d
  deep : d ≤ H
  way : WayAt P w H ssd pd
  node : NodeAt P w (H - d) gd td
  good : GoodT (H - d) td
  full : Full (H - d) td
theorem getL_no {l : List Pr} {k : List Nat} {q : Pr} (h : l[atN l k]? = some q) (hne : q.1 ≠ k) : getL l k = none := by
  unfold getL; rw [h]; simp [hne]
theorem getL_out {l : List Pr} {k : List Nat} (h : l.length ≤ atN l k) : getL l k = none := by
  unfold getL; rw [List.getElem?_eq_none h]; rfl
theorem getL_yes {l : List Pr} {k : List Nat} {q : Pr} (h : l[atN l k]? = some q) (he : q.1 = k) : (getL l k).isSome = true := by
  unfold getL; rw [h]; simp [he]
section
variable {P : Bl} {w : World} {H : Nat} {t : T} {k : List Nat} {d gd : Nat} {td : T} {ssd : List (Nat × Nat)} {pd : List (T × Nat)}
theorem DownAt.yes (h : DownAt P w H t k d gd td ssd pd) (hy : (getL td.ps k).isSome = true) : foundT H t k = true ∧ WayAt P w H (ssd ++ [(gd, atN td.ps k)]) (pathT H t k) := by
  have e1 : pathT (H - d) td k = [(td, atN td.ps k)] := by
    cases hd : H - d with
    | zero => rfl
    | succ n => show (td, atN td.ps k) :: (if (getL td.ps k).isSome = true then [] else _) = _; rw [if_pos hy]
  have e2 : foundT (H - d) td k = true := by
    cases hd : H - d with
    | zero => exact hy
    | succ n => show (if (getL td.ps k).isSome = true then true else _) = true; rw [if_pos hy]
  refine ⟨h.found.trans e2, ?_⟩
  rw [h.path, e1]
  exact h.way.snoc (by have := h.len; have := h.deep; omega) (by rw [h.len]; exact h.node)
theorem DownAt.leaf (h : DownAt P w H t k d gd td ssd pd) (hy : getL td.ps k = none) (h0 : H - d = 0) : foundT H t k = false ∧ WayAt P w H (ssd ++ [(gd, atN td.ps k)]) (pathT H t k) := by
  have e1 : pathT (H - d) td k = [(td, atN td.ps k)] := by rw [h0]; rfl
  have e2 : foundT (H - d) td k = false := by rw [h0]; show (getL td.ps k).isSome = false; rw [hy]; rfl
  refine ⟨h.found.trans e2, ?_⟩
  rw [h.path, e1]
  exact h.way.snoc (by have := h.len; have := h.deep; omega) (by rw [h.len]; exact h.node)
theorem DownAt.next (h : DownAt P w H t k d gd td ssd pd) (hy : getL td.ps k = none) {n g' : Nat} {t' : T} (h0 : H - d = n + 1) (hk : td.ks[atN td.ps k]? = some t') (hn : NodeAt P w n g' t') :
    DownAt P w H t k (d + 1) g' t' (ssd ++ [(gd, atN td.ps k)]) (pd ++ [(td, atN td.ps k)]) := by
  have hg := h.good
  have hf := h.full
  have hnd := h.node
  rw [h0] at hg hf hnd
  have e0 : H - (d + 1) = n := by omega
  refine ⟨?_, ?_, by simp [h.len], by omega, h.way.snoc (by have := h.len; have := h.deep; omega) (by rw [h.len]; exact h.node), by rw [e0]; exact hn, by rw [e0]; exact hg.2 t' (List.mem_of_getElem? hk), by rw [e0]; exact hf.2 t' (List.mem_of_getElem? hk)⟩
  · rw [h.path, h0, e0]
    show pd ++ (td, atN td.ps k) :: (if (getL td.ps k).isSome = true then [] else match td.ks[atN td.ps k]? with | some t' => pathT n t' k | none => []) = _
    rw [hy, hk]; simp
  · rw [h.found, h0, e0]
    show (if (getL td.ps k).isSome = true then true else match td.ks[atN td.ps k]? with | some t' => foundT n t' k | none => false) = _
    rw [hy, hk]; simp
end

set_option maxHeartbeats 4000000 in
theorem down_any (w : World) (P : Bl) (H g : Nat) (t : T) (k : List Nat) (hn : NodeAt P w H g t) (hu : Under P w) (hg : GoodT H t) (hf : Full H t) (hkb : Byt k) (hH : H ≤ 5000) :
    Calls Tryz.prog 86 #[.pointer (some ⟨g, 0, none⟩), .string (str k)] w fun e w' => ∃ v ss, e = .returned (.tuple #[v, .bool (foundT H t k)]) ∧ Below w.heap.size w w' ∧ Mid 2 cS 162 w [] w' v ss ∧ WayAt P w H ss (pathT H t k) := by
  obtain ⟨i0, hi0, hz0, hs0, hy0⟩ := info_parts Tryz.info162
  have HU := hid hu
  have HD0 : Hid (DownAt P w H t k 0 g t [] []) := ⟨rfl, rfl, rfl, Nat.zero_le _, ⟨rfl, by simp, fun j s x h => by simp at h⟩, hn, hg, hf⟩
  clear hn hg hf hu
  go_enter Tryz.func86, Tryz.ntmps86
  go_wp2
  go_step3
  go_wp2
  go_step3
  go_wp2
  go_loopw [0, 4] (fun n wy wr => ∃ (d gd : Nat) (td : T) (ssd : List (Nat × Nat)) (pd : List (T × Nat)), n = .pointer (some ⟨gd, 0, none⟩) ∧ Mid 2 cS 162 w [] wr wy ssd ∧ DownAt P w H t k d gd td ssd pd) (fun _ wy _ => H + 1 - lenV wy)
  case atStart => exact ⟨0, g, t, [], [], rfl, Mid.nil _ _ (Below.refl _ _), HD0.out⟩
  case round =>
    obtain ⟨d, gd, td, ssd, pd, rfl, hmid, hda⟩ := hrel
    obtain ⟨Aw, nw, cw, rfl⟩ := hmid.rows.form
    have hnw : nw = ssd.length := hmid.rows.cap.1
    have HB := hid hmid.base
    have HNW : Hid (nw = d) := hnw.trans hda.len
    have HMID := hid hmid
    have HDA := hid hda
    obtain ⟨q1, q2, q3⟩ := hda.good.node
    clear hmid hda hnw
    obtain ⟨vp, vk, gs, hh, hsd⟩ := nodeAt_iff.1 HDA.out.node
    obtain ⟨A, cap, rfl⟩ := hh.pairs.slice
    obtain ⟨B, capb, rfl⟩ := hh.kids.slice
    have HH := hid hh
    have HSD := hid hsd
    obtain ⟨n1, HN1⟩ : ∃ n1, Hid (n1 = td.ps.length) := ⟨_, rfl⟩
    obtain ⟨a, HA⟩ : ∃ a, Hid (a = atN td.ps k) := ⟨_, rfl⟩
    have hPL := hid fun (W : World) (hn : NodeAt P W (H - d) gd td) (hu : Under P W) => place_any W P _ gd td k hn hu q1 q2 hkb (by omega)
    have HBND : Hid (ssd.length + 1 ≤ maxLen ∧ (ssd.length + 1) * 16 ≤ 140737488355328) := by
      have h1 := HDA.out.len
      have h2 := HDA.out.deep
      constructor
      · unfold maxLen; omega
      · omega
    have hal : a ≤ n1 := by rw [HA.out, HN1.out]; exact atN_le _ _
    have hn1s : n1 ≤ 100 := by rw [HN1.out]; exact q3
    rw [← HA.out] at hPL
    have HQB := hid q2
    clear hh hsd q1 q2 q3
    rcases Nat.lt_or_ge a n1 with hlt | hge
    · have hai : (a : Int) < n1 := by omega
      obtain ⟨q, hq⟩ : ∃ q, td.ps[a]? = some q := ⟨td.ps[a]'(by have := HN1.out; omega), List.getElem?_eq_getElem _⟩
      have hqb := (HQB.out q (List.mem_of_getElem? hq)).1
      obtain ⟨ad, rfl, _, _⟩ := HH.out.pairs.pcell hq
      have HQ := hid hq
      have heq := beq_str hqb hkb
      clear hq hqb
      by_cases hkey : q.1 = k
      · -- the key is there
        have HG : Hid ((getL td.ps k).isSome = true) := getL_yes (by rw [← HA.out]; exact HQ.out) hkey
        have HKEY := hid hkey
        simp only [hkey, decide_true] at heq
        clear hkey
        have HCF : Hid (∀ W, Below w.heap.size w W → W.cell? ⟨gd, 0, none⟩ = some (.slice (some ad) n1 cap) ∧ W.cell? (ad.add (a * 2)) = some (.string (str k))) := fun W hb => by
          have h1 := HH.out.keep (HU.out.stay hb)
          obtain ⟨ad', e, p0, _⟩ := h1.pairs.pcell HQ.out
          injection e with e
          subst e
          rw [HKEY.out] at p0
          exact ⟨by rw [HN1.out]; exact h1.c0, p0⟩
        go_wp2_with (first
          | (go_at_call 118; refine (hPL.out wr (NodeAt.keep (HU.out.stay HB.out) HDA.out.node) (HU.out.later HB.out.size)).mono ?_; rintro e w2 ⟨rfl, hb2⟩; have HM2 := hid (HMID.out.below (fun _ h => by cases h) hb2); clear hb2)
          | (at_builtin; refine wpList_append_mid (w0 := w) (F := []) rfl (.tmp 10) (.tmp 14) 158 rfl 162 i0 _ 2 16 Tryz.underlying158 hi0 hz0 hs0 hy0 rfl (by omega) cS_len cS_one _ ssd rfl (HM2.out.below (fun _ h => by cases h) ((Below.refl _ _).alloc (Nat.le_refl _) _)) _ [(gd, a)] rfl (elems_step (e := 162) (heap_alloc_new _ _)) HBND.out.1 HBND.out.2 ?_; intro v3 w3 hm3 hg3 hf3; have HB3 := hid hm3.base; have HM3 := hid hm3; obtain ⟨A3, n3, c3, rfl⟩ := hm3.rows.form; have HN3 : Hid (n3 = ssd.length + 1) := (by have := hm3.rows.cap.1; simp at this; exact this); obtain ⟨c0, p0⟩ := HCF.out w3 HB3.out; clear hm3 hg3 hf3))
        rw [Exit.noGoto_ret]; go_ret2
        obtain ⟨r1, r2⟩ := HDA.out.yes HG.out
        exact ⟨_, _, by rw [r1]; rfl, HB3.out, HM3.out, by rw [← HA.out] at r2; exact r2⟩
      · have HG : Hid (getL td.ps k = none) := getL_no (by rw [← HA.out]; exact HQ.out) hkey
        have HKEY := hid (beq_str_ne hkey)
        simp only [hkey, decide_false] at heq
        clear hkey
        cases hHd : H - d with
        | zero =>
          have HHD := hid hHd
          have hg0 : gs.length = 0 := by
            have hf := HDA.out.full
            rw [hHd] at hf
            rw [HSD.out.1, show td.ks = [] from hf]; rfl
          have HG0 := hid hg0
          have HCF : Hid (∀ W, Below w.heap.size w W → W.cell? ⟨gd, 0, none⟩ = some (.slice (some ad) n1 cap) ∧ W.cell? (ad.add (a * 2)) = some (.string (str q.1)) ∧ W.cell? ⟨gd, 0 + 1, none⟩ = some (.slice B 0 capb)) := fun W hb => by
            have h1 := HH.out.keep (HU.out.stay hb)
            obtain ⟨ad', e, p0, _⟩ := h1.pairs.pcell HQ.out
            injection e with e
            subst e
            exact ⟨by rw [HN1.out]; exact h1.c0, p0, by have := h1.c1'; rwa [HG0.out] at this⟩
          clear hHd hg0
          go_wp2_with (first
            | (go_at_call 118; refine (hPL.out wr (NodeAt.keep (HU.out.stay HB.out) HDA.out.node) (HU.out.later HB.out.size)).mono ?_; rintro e w2 ⟨rfl, hb2⟩; have HM2 := hid (HMID.out.below (fun _ h => by cases h) hb2); clear hb2)
            | (at_builtin; refine wpList_append_mid (w0 := w) (F := []) rfl (.tmp 10) (.tmp 14) 158 rfl 162 i0 _ 2 16 Tryz.underlying158 hi0 hz0 hs0 hy0 rfl (by omega) cS_len cS_one _ ssd rfl (HM2.out.below (fun _ h => by cases h) ((Below.refl _ _).alloc (Nat.le_refl _) _)) _ [(gd, a)] rfl (elems_step (e := 162) (heap_alloc_new _ _)) HBND.out.1 HBND.out.2 ?_; intro v3 w3 hm3 hg3 hf3; have HB3 := hid hm3.base; have HM3 := hid hm3; obtain ⟨A3, n3, c3, rfl⟩ := hm3.rows.form; have HN3 : Hid (n3 = ssd.length + 1) := (by have := hm3.rows.cap.1; simp at this; exact this); obtain ⟨c0, p0, c1⟩ := HCF.out w3 HB3.out; clear hm3 hg3 hf3))
          rw [Exit.noGoto_ret]; go_ret2
          obtain ⟨r1, r2⟩ := HDA.out.leaf HG.out HHD.out
          exact ⟨_, _, by rw [r1]; rfl, HB3.out, HM3.out, by rw [← HA.out] at r2; exact r2⟩
        | succ hn' =>
          have HHD := hid hHd
          have hf := HDA.out.full
          rw [hHd] at hf
          have hgl : gs.length = n1 + 1 := by rw [HSD.out.1, hf.1, HN1.out]
          obtain ⟨t', ht'⟩ : ∃ t', td.ks[a]? = some t' := ⟨td.ks[a]'(by have := hf.1; have := HN1.out; omega), List.getElem?_eq_getElem _⟩
          obtain ⟨g', hg', hn1'⟩ := Side.at_ HSD.out ht'
          rw [hHd] at hn1'
          obtain ⟨adk, rfl, _⟩ := HH.out.kids.kcell hg'
          have HGL := hid hgl
          have HG' := hid hg'
          have HT' := hid ht'
          have HNT : Hid (NodeAt P w hn' g' t') := hn1'
          have hai2 : (a : Int) < (n1 : Int) + 1 := by omega
          have HCF : Hid (∀ W, Below w.heap.size w W → W.cell? ⟨gd, 0, none⟩ = some (.slice (some ad) n1 cap) ∧ W.cell? (ad.add (a * 2)) = some (.string (str q.1)) ∧ W.cell? ⟨gd, 0 + 1, none⟩ = some (.slice (some adk) (n1 + 1) capb) ∧ W.cell? (adk.add a) = some (.pointer (some ⟨g', 0, none⟩))) := fun W hb => by
            have h1 := HH.out.keep (HU.out.stay hb)
            obtain ⟨ad', e, p0, _⟩ := h1.pairs.pcell HQ.out
            injection e with e
            subst e
            obtain ⟨adk', ek, k0⟩ := h1.kids.kcell HG'.out
            injection ek with ek
            subst ek
            exact ⟨by rw [HN1.out]; exact h1.c0, p0, by have := h1.c1'; rwa [HGL.out] at this, k0⟩
          clear hHd hgl hg' ht' hn1' hf
          go_wp2_with (first
            | (go_at_call 118; refine (hPL.out wr (NodeAt.keep (HU.out.stay HB.out) HDA.out.node) (HU.out.later HB.out.size)).mono ?_; rintro e w2 ⟨rfl, hb2⟩; have HM2 := hid (HMID.out.below (fun _ h => by cases h) hb2); clear hb2)
            | (at_builtin; refine wpList_append_mid (w0 := w) (F := []) rfl (.tmp 10) (.tmp 14) 158 rfl 162 i0 _ 2 16 Tryz.underlying158 hi0 hz0 hs0 hy0 rfl (by omega) cS_len cS_one _ ssd rfl (HM2.out.below (fun _ h => by cases h) ((Below.refl _ _).alloc (Nat.le_refl _) _)) _ [(gd, a)] rfl (elems_step (e := 162) (heap_alloc_new _ _)) HBND.out.1 HBND.out.2 ?_; intro v3 w3 hm3 hg3 hf3; have HB3 := hid hm3.base; have HM3 := hid hm3; obtain ⟨A3, n3, c3, rfl⟩ := hm3.rows.form; have HN3 : Hid (n3 = ssd.length + 1) := (by have := hm3.rows.cap.1; simp at this; exact this); obtain ⟨c0, p0, c1, k0⟩ := HCF.out w3 HB3.out; clear hm3 hg3 hf3))
          go_roundw
          case rel => exact ⟨d + 1, g', t', ssd ++ [(gd, a)], pd ++ [(td, a)], rfl, HM3.out, by have := HDA.out.next HG.out HHD.out (by rw [← HA.out]; exact HT'.out) HNT.out; rw [← HA.out] at this; exact this⟩
          case measure =>
            have h1 := HNW.out
            have h2 := HN3.out
            have h3 := HDA.out.len
            have h4 := HDA.out.deep
            simp only [lenV]
            omega
    · have hai : ¬ (a : Int) < n1 := by omega
      have HG : Hid (getL td.ps k = none) := getL_out (by rw [← HA.out, ← HN1.out]; exact hge)
      cases hHd : H - d with
      | zero =>
        have HHD := hid hHd
        have hg0 : gs.length = 0 := by
          have hf := HDA.out.full
          rw [hHd] at hf
          rw [HSD.out.1, show td.ks = [] from hf]; rfl
        have HG0 := hid hg0
        have HCF : Hid (∀ W, Below w.heap.size w W → W.cell? ⟨gd, 0, none⟩ = some (.slice A n1 cap) ∧ W.cell? ⟨gd, 0 + 1, none⟩ = some (.slice B 0 capb)) := fun W hb => by
          have h1 := HH.out.keep (HU.out.stay hb)
          exact ⟨by rw [HN1.out]; exact h1.c0, by have := h1.c1'; rwa [HG0.out] at this⟩
        clear hHd hg0
        go_wp2_with (first
          | (go_at_call 118; refine (hPL.out wr (NodeAt.keep (HU.out.stay HB.out) HDA.out.node) (HU.out.later HB.out.size)).mono ?_; rintro e w2 ⟨rfl, hb2⟩; have HM2 := hid (HMID.out.below (fun _ h => by cases h) hb2); clear hb2)
          | (at_builtin; refine wpList_append_mid (w0 := w) (F := []) rfl (.tmp 10) (.tmp 14) 158 rfl 162 i0 _ 2 16 Tryz.underlying158 hi0 hz0 hs0 hy0 rfl (by omega) cS_len cS_one _ ssd rfl (HM2.out.below (fun _ h => by cases h) ((Below.refl _ _).alloc (Nat.le_refl _) _)) _ [(gd, a)] rfl (elems_step (e := 162) (heap_alloc_new _ _)) HBND.out.1 HBND.out.2 ?_; intro v3 w3 hm3 hg3 hf3; have HB3 := hid hm3.base; have HM3 := hid hm3; obtain ⟨A3, n3, c3, rfl⟩ := hm3.rows.form; have HN3 : Hid (n3 = ssd.length + 1) := (by have := hm3.rows.cap.1; simp at this; exact this); obtain ⟨c0, c1⟩ := HCF.out w3 HB3.out; clear hm3 hg3 hf3))
        rw [Exit.noGoto_ret]; go_ret2
        obtain ⟨r1, r2⟩ := HDA.out.leaf HG.out HHD.out
        exact ⟨_, _, by rw [r1]; rfl, HB3.out, HM3.out, by rw [← HA.out] at r2; exact r2⟩
      | succ hn' =>
        have HHD := hid hHd
        have hf := HDA.out.full
        rw [hHd] at hf
        have hgl : gs.length = n1 + 1 := by rw [HSD.out.1, hf.1, HN1.out]
        obtain ⟨t', ht'⟩ : ∃ t', td.ks[a]? = some t' := ⟨td.ks[a]'(by have := hf.1; have := HN1.out; omega), List.getElem?_eq_getElem _⟩
        obtain ⟨g', hg', hn1'⟩ := Side.at_ HSD.out ht'
        rw [hHd] at hn1'
        obtain ⟨adk, rfl, _⟩ := HH.out.kids.kcell hg'
        have HGL := hid hgl
        have HG' := hid hg'
        have HT' := hid ht'
        have HNT : Hid (NodeAt P w hn' g' t') := hn1'
        have hai2 : (a : Int) < (n1 : Int) + 1 := by omega
        have HCF : Hid (∀ W, Below w.heap.size w W → W.cell? ⟨gd, 0, none⟩ = some (.slice A n1 cap) ∧ W.cell? ⟨gd, 0 + 1, none⟩ = some (.slice (some adk) (n1 + 1) capb) ∧ W.cell? (adk.add a) = some (.pointer (some ⟨g', 0, none⟩))) := fun W hb => by
          have h1 := HH.out.keep (HU.out.stay hb)
          obtain ⟨adk', ek, k0⟩ := h1.kids.kcell HG'.out
          injection ek with ek
          subst ek
          exact ⟨by rw [HN1.out]; exact h1.c0, by have := h1.c1'; rwa [HGL.out] at this, k0⟩
        clear hHd hgl hg' ht' hn1' hf
        go_wp2_with (first
          | (go_at_call 118; refine (hPL.out wr (NodeAt.keep (HU.out.stay HB.out) HDA.out.node) (HU.out.later HB.out.size)).mono ?_; rintro e w2 ⟨rfl, hb2⟩; have HM2 := hid (HMID.out.below (fun _ h => by cases h) hb2); clear hb2)
          | (at_builtin; refine wpList_append_mid (w0 := w) (F := []) rfl (.tmp 10) (.tmp 14) 158 rfl 162 i0 _ 2 16 Tryz.underlying158 hi0 hz0 hs0 hy0 rfl (by omega) cS_len cS_one _ ssd rfl (HM2.out.below (fun _ h => by cases h) ((Below.refl _ _).alloc (Nat.le_refl _) _)) _ [(gd, a)] rfl (elems_step (e := 162) (heap_alloc_new _ _)) HBND.out.1 HBND.out.2 ?_; intro v3 w3 hm3 hg3 hf3; have HB3 := hid hm3.base; have HM3 := hid hm3; obtain ⟨A3, n3, c3, rfl⟩ := hm3.rows.form; have HN3 : Hid (n3 = ssd.length + 1) := (by have := hm3.rows.cap.1; simp at this; exact this); obtain ⟨c0, c1, k0⟩ := HCF.out w3 HB3.out; clear hm3 hg3 hf3))
        go_roundw
        case rel => exact ⟨d + 1, g', t', ssd ++ [(gd, a)], pd ++ [(td, a)], rfl, HM3.out, by have := HDA.out.next HG.out HHD.out (by rw [← HA.out]; exact HT'.out) HNT.out; rw [← HA.out] at this; exact this⟩
        case measure =>
          have h1 := HNW.out
          have h2 := HN3.out
          have h3 := HDA.out.len
          have h4 := HDA.out.deep
          simp only [lenV]
          omega
end Go.Proofs.YtlnagdodnkhbmaaGreat

namespace Go.Proofs.YtlnagdodnkhbmaaGreat
open Go.RowKit
set_option maxRecDepth 100000

theorem Tryz.info5 : (Tryz.prog.info? 5).map (fun i => (i.zero, i.size, i.bytes)) = some (some (.int .u8 0), 1, 1) := by kernel_rfl

/-- A text that has bytes, copied: the same bytes. -/
theorem stringslite_clone (w : World) (s : ByteArray) (h0 : s.size ≠ 0) (hle : s.size ≤ 1000000) : Calls Tryz.prog 110 #[.string s] w fun e w' => e = .returned (.string s) ∧ Below w.heap.size w w' := by
  obtain ⟨i0, hi, hz0, hz1, hz2⟩ := info_parts Tryz.info5
  have hinfo : (Tryz.prog.info? 5).map (·.size) = some 1 := by rw [hi]; simp [hz1]
  have hco : Tryz.prog.cellsOf 5 = 1 := by kernel_rfl
  obtain ⟨M, HM⟩ : ∃ M, Hid (M = madeCells (Value.int .u8 0).cells (((s.size : Nat) : Int).toNat * i0.size)) := ⟨_, rfl⟩
  have hMs : M.size = s.size := by rw [HM.out, size_madeCells, hz1]; simp
  have hmk : ∀ W : World, (Instr.makeSlice 113 (.int .i64 (s.size : Int)) (.int .i64 (s.size : Int))).run Tryz.prog W = .ok (.slice (some ⟨W.heap.size, 0, none⟩) s.size s.size) (W.alloc (.cells M 5)) := fun W => by
    have h := run_make (P := Tryz.prog) W 113 5 i0 (.int .u8 0) Tryz.underlying113 hi hz0 .i64 .i64 (s.size : Int) (s.size : Int) (by omega) (by omega) (by rw [hz2]; omega) (by omega)
    rw [← HM.out] at h
    simpa using h
  have hcp := Lib.run_copy_row_string (P := Tryz.prog) (w.alloc (.cells M 5)) 113 9 3 5 w.heap.size 0 s.size s.size s M 5 Tryz.underlying113 hinfo (heap_alloc_new w _) (Nat.le_refl _) (by omega)
  obtain ⟨Y, HY⟩ : ∃ Y, Hid (Y = (M.toList.take 0 ++ Lib.byteCells s.data.toList ++ M.toList.drop (0 + s.size)).toArray) := ⟨_, rfl⟩
  rw [← HY.out] at hcp
  have hYl : Y.toList = Lib.byteCells s.data.toList := by
    rw [HY.out, List.toList_toArray, List.take_zero, List.nil_append, List.drop_of_length_le (by rw [Array.length_toList]; omega), List.append_nil]
  have hYs : Y.size = s.size := by rw [← Array.length_toList, hYl, Lib.byteCells_length, ← Lib.size_eq]
  have hrow : ((w.alloc (.cells M 5)).setRow w.heap.size Y).heap[w.heap.size]? = some (.cells Y 5 (0, 0)) := setRow_heap _ _ M _ 5 (0, 0) (heap_alloc_new w _)
  have hne : s.data.toList ≠ [] := fun e => h0 (by rw [Lib.size_eq, e]; rfl)
  have hus := Lib.run_unsafeString_row (P := Tryz.prog) ((w.alloc (.cells M 5)).setRow w.heap.size Y) 223 3 9 5 Tryz.underlying223 hco w.heap.size Y.size (by unfold World.shape?; rw [hrow]) s.data.toList hne (by rw [← Lib.size_eq]; omega) (by rw [← Lib.size_eq]; omega)
    (fun j x hx => Lib.cells_of_row hrow Y.size j _ (by rw [List.take_of_length_le (by rw [Array.length_toList]; exact Nat.le_refl _), hYl]; simp [Lib.byteCells, hx]))
  rw [← Lib.size_eq] at hus
  have HYS := hid hYs
  have HB : Hid (Below w.heap.size w (((w.alloc (.cells M 5)).setRow w.heap.size Y).freeze ⟨w.heap.size, 0, none⟩ s.size)) := by
    have b1 : Below w.heap.size w (w.alloc (.cells M 5)) := (Below.refl _ w).alloc (Nat.le_refl _) _
    have b2 : Below w.heap.size (w.alloc (.cells M 5)) ((w.alloc (.cells M 5)).setRow w.heap.size Y) := ⟨rfl, rfl, rfl, by simp, fun k hk => setRow_other _ _ _ _ (by omega)⟩
    exact Lib.below_freeze (b1.trans b2) (p := ⟨w.heap.size, 0, none⟩) (Nat.le_refl _) _
  clear hYl hrow hne hMs hYs
  go_enter Tryz.func110, Tryz.ntmps110
  go_wp2
  go_ret
  exact ⟨rfl, HB.out⟩
theorem clone_some (w : World) (s : ByteArray) (h0 : s.size ≠ 0) (hle : s.size ≤ 1000000) : Calls Tryz.prog 79 #[.string s] w fun e w' => e = .returned (.string s) ∧ Below w.heap.size w w' := by
  go_enter Tryz.func79, Tryz.ntmps79
  go_wp2_with fail
  refine (stringslite_clone w s h0 hle).mono ?_
  rintro e w' ⟨rfl, hb⟩
  go_wp2
  go_ret
  exact ⟨rfl, hb⟩

set_option maxRecDepth 100000 in
theorem clone_any (w : World) (xs : List Nat) (hle : xs.length ≤ 1000000) : Calls Tryz.prog 79 #[.string (str xs)] w fun e w' => e = .returned (.string (str xs)) ∧ Below w.heap.size w w' := by
  by_cases h : xs = []
  · subst h
    have h1 : Calls Tryz.prog 110 #[.string (str [])] w fun e w' => e = .returned (.string (str [])) ∧ Below w.heap.size w w' := by
      rw [← str_nil]
      go_enter Tryz.func110, Tryz.ntmps110
      go_wp2
      go_ret
      exact ⟨rfl, Below.refl _ _⟩
    go_enter Tryz.func79, Tryz.ntmps79
    go_wp2_with fail
    refine h1.mono ?_
    rintro e w2 ⟨rfl, hb⟩
    go_wp2
    go_ret
    exact ⟨rfl, hb⟩
  · refine clone_some w (str xs) ?_ (by rw [str_size]; exact hle)
    rw [str_size]
    exact fun e => h (List.eq_nil_of_length_eq_zero e)

theorem str_ne {xs : List Nat} (h : xs ≠ []) : ¬ (str xs).toList = [] ∧ (str xs).toList.isEmpty = false := by
  rw [str_toList]
  cases xs with
  | nil => exact absurd rfl h
  | cons x xs => exact ⟨by simp, rfl⟩
/-! check -/
theorem key64_str (k : List Nat) (h : key64 k = true) : 1 ≤ k.length ∧ k.length ≤ 64 := by unfold key64 at h; exact of_decide_eq_true h
theorem check_any (w : World) (p : Nat) (k : List Nat) (hk : k.length ≤ 100000) : Calls Tryz.prog 85 #[.pointer (some ⟨p, 0, none⟩), .string (str k)] w fun e w' => e = .returned (.int .i64 (checkR k)) ∧ w = w' := by
  have hs := str_size k
  unfold checkR key64
  by_cases h0 : k = []
  · subst h0
    rw [if_neg (by simp), ← str_nil]
    go_enter Tryz.func85, Tryz.ntmps85
    go_wp2
    go_ret
    exact ⟨rfl, rfl⟩
  · have hne : 1 ≤ k.length := by cases k with | nil => exact absurd rfl h0 | cons a l => simp
    obtain ⟨he, he'⟩ := str_ne h0
    by_cases h2 : (64 : Int) < k.length
    · rw [if_neg (by simp; omega)]
      go_enter Tryz.func85, Tryz.ntmps85
      go_wp2
      go_ret
      exact ⟨rfl, rfl⟩
    · rw [if_pos (by simp; omega)]
      go_enter Tryz.func85, Tryz.ntmps85
      go_wp2
      go_ret
      exact ⟨rfl, rfl⟩
end Go.Proofs.YtlnagdodnkhbmaaGreat

/- A way down the document's nodes: which pairs stand ahead of it, which behind it. -/
namespace Go.Proofs.YtlnagdodnkhbmaaGreat
open Go.RowKit
set_option maxRecDepth 100000

def LLp : Nat → List (T × Nat) → List Pr
  | h + 1, x :: r => LL h x.1 x.2 ++ LLp h r
  | _, _ => []
def RRp : Nat → List (T × Nat) → List Pr
  | h + 1, x :: r => RRp h r ++ RR h x.1 x.2
  | _, _ => []
def POk (o : Nat) : Nat → Nat → List (T × Nat) → Prop
  | _, _, [] => True
  | 0, _, _ :: _ => False
  | h + 1, lo, x :: r => Ok o (h + 1) lo (2 * o - 1) x.1 ∧ x.2 ≤ x.1.ps.length ∧ POk o h (o - 1) r
theorem POk.nil_ (o H lo : Nat) : POk o H lo [] := by cases H <;> exact trivial
theorem LLp_nil (H : Nat) : LLp H [] = [] := by cases H <;> rfl
theorem RRp_nil (H : Nat) : RRp H [] = [] := by cases H <;> rfl
theorem LLp_app : ∀ {p q : List (T × Nat)} {H : Nat}, p.length ≤ H → LLp H (p ++ q) = LLp H p ++ LLp (H - p.length) q
  | [], q, H, _ => by rw [LLp_nil]; rfl
  | x :: p, q, 0, h => by simp at h
  | x :: p, q, H + 1, h => by
    show LL H x.1 x.2 ++ LLp H (p ++ q) = (LL H x.1 x.2 ++ LLp H p) ++ _
    rw [LLp_app (by simpa using h), List.length_cons, Nat.add_sub_add_right, List.append_assoc]
theorem RRp_app : ∀ {p q : List (T × Nat)} {H : Nat}, p.length ≤ H → RRp H (p ++ q) = RRp (H - p.length) q ++ RRp H p
  | [], q, H, _ => by rw [RRp_nil]; simp
  | x :: p, q, 0, h => by simp at h
  | x :: p, q, H + 1, h => by
    show RRp H (p ++ q) ++ RR H x.1 x.2 = _ ++ (RRp H p ++ RR H x.1 x.2)
    rw [RRp_app (by simpa using h), List.length_cons, Nat.add_sub_add_right, List.append_assoc]
theorem POk.len {o : Nat} : ∀ {p : List (T × Nat)} {H lo : Nat}, POk o H lo p → p.length ≤ H
  | [], _, _, _ => Nat.zero_le _
  | _ :: p, 0, _, h => h.elim
  | _ :: p, H + 1, _, h => by have := POk.len h.2.2; simp; omega
theorem POk.app {o : Nat} : ∀ {p q : List (T × Nat)} {H lo : Nat}, POk o H lo p → POk o (H - p.length) (if p.length = 0 then lo else o - 1) q → POk o H lo (p ++ q)
  | [], q, H, lo, _, h => h
  | _ :: p, _, 0, _, h, _ => h.elim
  | x :: p, q, H + 1, lo, h, hq => by
    refine ⟨h.1, h.2.1, POk.app h.2.2 ?_⟩
    rw [List.length_cons, Nat.add_sub_add_right, if_neg (by omega)] at hq
    split
    · exact hq
    · exact hq
theorem POk.at_ {o : Nat} : ∀ {p : List (T × Nat)} {H lo j : Nat} {x : T × Nat}, POk o H lo p → p[j]? = some x → x.2 ≤ x.1.ps.length ∧ Ok o (H - j) (if j = 0 then lo else o - 1) (2 * o - 1) x.1
  | [], _, _, _, _, _, h => by simp at h
  | _ :: _, 0, _, _, _, h, _ => h.elim
  | y :: p, H + 1, lo, 0, x, h, hx => by
    simp at hx; subst hx
    exact ⟨h.2.1, h.1⟩
  | y :: p, H + 1, lo, j + 1, x, h, hx => by
    rw [List.getElem?_cons_succ] at hx
    obtain ⟨h1, h2⟩ := POk.at_ h.2.2 hx
    refine ⟨h1, ?_⟩
    rw [Nat.add_sub_add_right, if_neg (by omega)]
    split at h2
    · exact h2
    · exact h2
theorem PathAt.of {P : Bl} {w : World} {o H : Nat} {ss : List (Nat × Nat)} {path : List (T × Nat)} (hw : WayAt P w H ss path) (hp : POk o H 1 path) : PathAt P w o H ss path :=
  ⟨hw.len, by rw [hw.len]; exact hp.len, fun j s x h1 h2 => by
    obtain ⟨q1, q2⟩ := hw.node j s x h1 h2
    obtain ⟨q3, q4⟩ := hp.at_ h2
    exact ⟨q1, q2, q3, q4⟩⟩

section
variable {o : Nat}
theorem up_ok' (ho : 2 ≤ o) {kid : T} : ∀ {r : List (T × Nat)} {h : Nat}, POk o h (o - 1) r → Ok o (h - r.length) (o - 2) (2 * o) kid → Ok o h (o - 2) (2 * o) (upT o r kid)
  | [], h, _, hk => hk
  | _ :: _, 0, hp, _ => hp.elim
  | x :: r, h + 1, hp, hk => by
    have h1 := hp.1.len
    rw [List.length_cons, Nat.add_sub_add_right] at hk
    have := above_ok ho hp.1 x.2 hp.2.1 (by omega) (up_ok' ho hp.2.2 hk)
    exact this.to_ (by have := this.len; omega) (by have := this.len; omega)
theorem up_flat (ho : 2 ≤ o) {kid : T} : ∀ {path : List (T × Nat)} {H lo : Nat}, 1 ≤ lo → POk o H lo path → Ok o (H - path.length) (if path.length = 0 then 0 else o - 2) (2 * o) kid →
    flat H (upT o path kid) = LLp H path ++ flat (H - path.length) kid ++ RRp H path
  | [], H, _, _, _, _ => by rw [LLp_nil, RRp_nil]; show flat H kid = [] ++ flat H kid ++ []; simp
  | _ :: _, 0, _, _, hp, _ => hp.elim
  | x :: r, H + 1, lo, hlo, hp, hk => by
    have h1 := hp.1.len
    rw [List.length_cons, Nat.add_sub_add_right, if_neg (by omega)] at hk
    have e : upT o (x :: r) kid = aboveT o x.1 x.2 (upT o r kid) := rfl
    rw [e, above_flat ho hp.1 x.2 hp.2.1 (by omega) (up_ok' ho hp.2.2 hk), up_flat ho (lo := o - 1) (by omega) hp.2.2 (by split; exact hk.to_ (Nat.zero_le _) hk.len.2; exact hk)]
    rw [List.length_cons, Nat.add_sub_add_right]
    show LL H x.1 x.2 ++ (LLp H r ++ flat (H - r.length) kid ++ RRp H r) ++ RR H x.1 x.2 = (LL H x.1 x.2 ++ LLp H r) ++ flat (H - r.length) kid ++ (RRp H r ++ RR H x.1 x.2)
    simp
theorem up_root (ho : 2 ≤ o) {kid : T} {path : List (T × Nat)} {H : Nat} (hp : POk o H 1 path) (hk : Ok o (H - path.length) (if path.length = 0 then 0 else o - 2) (2 * o) kid) : Ok o H 0 (2 * o) (upT o path kid) := by
  cases path with
  | nil => exact hk.to_ (Nat.zero_le _) hk.len.2
  | cons x r =>
    cases H with
    | zero => exact hp.elim
    | succ H =>
      have h1 := hp.1.len
      rw [List.length_cons, Nat.add_sub_add_right, if_neg (by omega)] at hk
      have := above_ok ho hp.1 x.2 hp.2.1 (by omega) (up_ok' ho hp.2.2 hk)
      exact this.to_ (Nat.zero_le _) (by have := this.len; omega)
end

/-! Of keys that rise. -/
theorem rising_app {l m : List Pr} (h : Rising (l ++ m)) : Rising l ∧ Rising m ∧ ∀ x ∈ l, ∀ y ∈ m, x.1 < y.1 := by
  unfold Rising at h
  rw [List.pairwise_append] at h
  exact h
theorem rising_sub {l m : List Pr} (h : Rising m) (hs : l.Sublist m) : Rising l := List.Pairwise.sublist hs h
theorem lt_of_not {a b : List Nat} (h : ¬ a < b) (h2 : a ≠ b) : b < a := Std.lt_of_le_of_ne h (id (Ne.symm h2))
theorem ps_sub_inter : ∀ (ps : List Pr) (ks : List (List Pr)), ps.Sublist (inter ps ks)
  | ps, [] => by cases ps <;> exact List.Sublist.refl _
  | [], k :: ks => List.nil_sublist _
  | p :: ps, k :: ks => by
    show (p :: ps).Sublist (k ++ p :: inter ps ks)
    exact List.Sublist.trans ((ps_sub_inter ps ks).cons_cons p) (List.sublist_append_right _ _)
theorem ps_sub {h : Nat} {t : T} : t.ps.Sublist (flat h t) := by
  cases h with
  | zero => exact List.Sublist.refl _
  | succ h => exact ps_sub_inter _ _
theorem kid_sub {h : Nat} {t k : T} (hf : t.ks.length = t.ps.length + 1) (hk : k ∈ t.ks) : (flat h k).Sublist (flat (h + 1) t) := by
  obtain ⟨a, ha⟩ := List.getElem?_of_mem hk
  have hl := (List.getElem?_eq_some_iff.1 ha).1
  rw [flat_at (a := a) (by omega) ha, List.append_assoc]
  exact List.Sublist.trans (List.sublist_append_left _ _) (List.sublist_append_right _ _)
theorem good_of {o : Nat} : ∀ {h lo hi : Nat} {t : T}, Ok o h lo hi t → o ≤ 16 → hi ≤ 100 → Rising (flat h t) → PByt (flat h t) → GoodT h t
  | 0, lo, hi, t, ht, _, hh, hr, hb => ⟨hr, hb, by have := ht.len; omega⟩
  | h + 1, lo, hi, t, ht, ho, hh, hr, hb => ⟨⟨rising_sub hr ps_sub, fun q hq => hb q ((ps_sub (h := h + 1)).subset hq), by have := ht.len; omega⟩, fun k hk =>
      good_of (ht.2.2 k hk) ho (by omega) (rising_sub hr (kid_sub ht.2.1 hk)) fun q hq => hb q ((kid_sub ht.2.1 hk).subset hq)⟩

section
variable {o h lo hi : Nat} {t : T} {k : List Nat}
theorem LL_succ {a : Nat} {l : T} {p : Pr} (hl : t.ks[a]? = some l) (hp : t.ps[a]? = some p) : LL h t (a + 1) = LL h t a ++ (flat h l ++ [p]) := by
  have h1 := (List.getElem?_eq_some_iff.1 hl).1
  have h2 := (List.getElem?_eq_some_iff.1 hp).1
  unfold LL
  have e1 : t.ps.take (a + 1) = t.ps.take a ++ [p] := by rw [List.take_add_one, hp]; rfl
  have e2 : t.ks.take (a + 1) = t.ks.take a ++ [l] := by rw [List.take_add_one, hl]; rfl
  rw [e1, e2, List.map_append, pre_app _ _ _ _ (by simp; omega)]
  rfl
theorem LL_zero : LL h t 0 = [] := by unfold LL; simp [pre]
theorem RR_some {a : Nat} {p : Pr} (hp : t.ps[a]? = some p) : RR h t a = p :: inter (t.ps.drop (a + 1)) ((t.ks.drop (a + 1)).map (flat h)) := by
  have h2 := (List.getElem?_eq_some_iff.1 hp).1
  unfold RR
  have e1 : t.ps.drop a = p :: t.ps.drop (a + 1) := by rw [List.drop_eq_getElem_cons h2]; congr 1; exact (List.getElem?_eq_some_iff.1 hp).2
  rw [e1]
  rfl
theorem RR_none {a : Nat} (ha : t.ps.length ≤ a) (hf : t.ks.length = t.ps.length + 1) : RR h t a = [] := by
  unfold RR
  rw [List.drop_of_length_le ha, List.drop_of_length_le (by omega)]
  rfl
theorem ll_lt (ht : Ok o (h + 1) lo hi t) (hr : Rising (flat (h + 1) t)) : ∀ x ∈ LL h t (atN t.ps k), x.1 < k := by
  have hrp : Rising t.ps := rising_sub hr ps_sub
  have hkl := ht.2.1
  have hal := atN_le t.ps k
  cases ha : atN t.ps k with
  | zero => intro x hx; rw [LL_zero] at hx; cases hx
  | succ a =>
    obtain ⟨l, hl⟩ : ∃ l, t.ks[a]? = some l := ⟨t.ks[a]'(by omega), List.getElem?_eq_getElem _⟩
    obtain ⟨p, hp⟩ : ∃ p, t.ps[a]? = some p := ⟨t.ps[a]'(by omega), List.getElem?_eq_getElem _⟩
    obtain ⟨l', hl'⟩ : ∃ l, t.ks[a + 1]? = some l := ⟨t.ks[a + 1]'(by omega), List.getElem?_eq_getElem _⟩
    have hpk : p.1 < k := (atN_iff hrp hp).2 (by omega)
    have hfl := flat_at (h := h) (t := t) (a := a + 1) (by omega) hl'
    rw [hfl, List.append_assoc] at hr
    have hL := (rising_app hr).1
    rw [LL_succ hl hp, ← List.append_assoc] at hL ⊢
    intro x hx
    rcases List.mem_append.1 hx with hx | hx
    · exact key_lt_trans ((rising_app hL).2.2 x hx p (by simp)) hpk
    · simp at hx; rw [hx]; exact hpk
theorem rr_gt (ht : Ok o (h + 1) lo hi t) (hr : Rising (flat (h + 1) t)) (hg : getL t.ps k = none) : ∀ x ∈ RR h t (atN t.ps k), k < x.1 := by
  have hrp : Rising t.ps := rising_sub hr ps_sub
  have hkl := ht.2.1
  have hal := atN_le t.ps k
  rcases Nat.lt_or_ge (atN t.ps k) t.ps.length with hlt | hge
  · obtain ⟨p, hp⟩ : ∃ p, t.ps[atN t.ps k]? = some p := ⟨t.ps[atN t.ps k], List.getElem?_eq_getElem _⟩
    obtain ⟨l', hl'⟩ : ∃ l, t.ks[atN t.ps k]? = some l := ⟨t.ks[atN t.ps k]'(by omega), List.getElem?_eq_getElem _⟩
    have hpk : ¬ p.1 < k := fun h => by have := (atN_iff hrp hp).1 h; omega
    have hne : p.1 ≠ k := fun e => by
      unfold getL at hg
      rw [hp] at hg
      simp [e] at hg
    have hkp : k < p.1 := lt_of_not hpk hne
    have hfl := flat_at (h := h) (t := t) (a := atN t.ps k) hal hl'
    rw [hfl] at hr
    have hR := (rising_app hr).2.1
    rw [RR_some hp] at hR ⊢
    intro x hx
    rcases List.mem_cons.1 hx with rfl | hx
    · exact hkp
    · exact key_lt_trans hkp ((List.pairwise_cons.1 hR).1 x hx)
  · intro x hx
    rw [RR_none hge hkl] at hx
    cases hx
end
theorem at_found {X Z : List Pr} {k v : List Nat} (hX : ∀ x ∈ X, x.1 < k) : atN (X ++ (k, v) :: Z) k = X.length ∧ getL (X ++ (k, v) :: Z) k = some v := by
  have h1 : atN (X ++ (k, v) :: Z) k = X.length := atN_of _ _ _ (by simp) (fun j p hj hp => by
    rw [List.getElem?_append_left hj] at hp
    exact hX p (List.mem_of_getElem? hp)) (fun p hp => by
    rw [List.getElem?_append_right (Nat.le_refl _), Nat.sub_self] at hp
    simp at hp; subst hp
    exact List.lt_irrefl _)
  refine ⟨h1, ?_⟩
  unfold getL
  rw [h1, List.getElem?_append_right (Nat.le_refl _), Nat.sub_self]
  simp
theorem at_none {X Z : List Pr} {k : List Nat} (hX : ∀ x ∈ X, x.1 < k) (hZ : ∀ z ∈ Z, k < z.1) : atN (X ++ Z) k = X.length ∧ getL (X ++ Z) k = none := by
  have hz : ∀ p : Pr, (X ++ Z)[X.length]? = some p → k < p.1 := fun p hp => by
    rw [List.getElem?_append_right (Nat.le_refl _)] at hp
    exact hZ p (List.mem_of_getElem? hp)
  have h1 : atN (X ++ Z) k = X.length := atN_of _ _ _ (by simp) (fun j p hj hp => by
    rw [List.getElem?_append_left hj] at hp
    exact hX p (List.mem_of_getElem? hp)) (fun p hp => List.not_lt.2 (List.le_of_lt (hz p hp)))
  refine ⟨h1, ?_⟩
  unfold getL
  rw [h1]
  cases hp : (X ++ Z)[X.length]? with
  | none => rfl
  | some p =>
    have := hz p hp
    simp
    intro e
    rw [e] at this
    exact List.lt_irrefl _ this
theorem find_lt {t : T} {k : List Nat} (h : (getL t.ps k).isSome = true) : ∃ v, t.ps[atN t.ps k]? = some (k, v) := by
  cases hg : getL t.ps k with
  | none => rw [hg] at h; cases h
  | some v => exact ⟨v, getL_some hg⟩

/-- Where a way leads. -/
structure WayOf (o H lo : Nat) (t : T) (k : List Nat) (init : List (T × Nat)) (tl : T) : Prop where
  path : pathT H t k = init ++ [(tl, atN tl.ps k)]
  pok : POk o H lo init
  last : Ok o (H - init.length) (if init.length = 0 then lo else o - 1) (2 * o - 1) tl
  fl : flat H t = LLp H init ++ flat (H - init.length) tl ++ RRp H init
  ahead : ∀ x ∈ LLp H init, x.1 < k
  behind : ∀ x ∈ RRp H init, k < x.1
  found : foundT H t k = (getL tl.ps k).isSome
  leaf : getL tl.ps k = none → H - init.length = 0
theorem way_of {o : Nat} (ho : 2 ≤ o) {k : List Nat} : ∀ {H lo : Nat} {t : T}, Ok o H lo (2 * o - 1) t → Rising (flat H t) → ∃ init tl, WayOf o H lo t k init tl
  | 0, lo, t, ht, hr => ⟨[], t, rfl, trivial, ht, by simp [LLp, RRp, flat], by simp [LLp], by simp [RRp], rfl, fun _ => rfl⟩
  | H + 1, lo, t, ht, hr => by
    cases hg : getL t.ps k with
    | some v =>
      have hs : (getL t.ps k).isSome = true := by rw [hg]; rfl
      refine ⟨[], t, ?_, trivial, ht, ?_, ?_, ?_, ?_, ?_⟩
      · show (t, atN t.ps k) :: (if (getL t.ps k).isSome = true then [] else _) = _
        rw [if_pos hs]; rfl
      · show flat (H + 1) t = LLp (H + 1) [] ++ flat (H + 1) t ++ RRp (H + 1) []
        rw [LLp_nil, RRp_nil]; simp
      · rw [LLp_nil]; simp
      · rw [RRp_nil]; simp
      · show (if (getL t.ps k).isSome = true then true else _) = _
        rw [if_pos hs, hs]
      · rw [hg]; exact fun h => by cases h
    | none =>
      have hal := atN_le t.ps k
      obtain ⟨t', ht'⟩ : ∃ l, t.ks[atN t.ps k]? = some l := ⟨t.ks[atN t.ps k]'(by have := ht.2.1; omega), List.getElem?_eq_getElem _⟩
      have hm := List.mem_of_getElem? ht'
      obtain ⟨init, tl, q⟩ := way_of ho (k := k) (ht.2.2 t' hm) (rising_sub hr (kid_sub ht.2.1 hm))
      refine ⟨(t, atN t.ps k) :: init, tl, ?_, ⟨ht, hal, q.pok⟩, ?_, ?_, ?_, ?_, ?_, ?_⟩
      · show (t, atN t.ps k) :: (if (getL t.ps k).isSome = true then [] else match t.ks[atN t.ps k]? with | some t' => pathT H t' k | none => []) = _
        rw [hg, ht', if_neg (by simp)]
        show (t, atN t.ps k) :: pathT H t' k = _
        rw [q.path]; rfl
      · rw [List.length_cons, Nat.add_sub_add_right, if_neg (by omega)]
        have := q.last
        split at this
        · exact this
        · exact this
      · rw [List.length_cons, Nat.add_sub_add_right, flat_at hal ht', q.fl]
        show _ = (LL H t (atN t.ps k) ++ LLp H init) ++ flat (H - init.length) tl ++ (RRp H init ++ RR H t (atN t.ps k))
        simp
      · intro x hx
        rcases List.mem_append.1 (show x ∈ LL H t (atN t.ps k) ++ LLp H init from hx) with hx | hx
        · exact ll_lt ht hr x hx
        · exact q.ahead x hx
      · intro x hx
        rcases List.mem_append.1 (show x ∈ RRp H init ++ RR H t (atN t.ps k) from hx) with hx | hx
        · exact q.behind x hx
        · exact rr_gt ht hr hg x hx
      · show (if (getL t.ps k).isSome = true then true else match t.ks[atN t.ps k]? with | some t' => foundT H t' k | none => false) = _
        rw [hg, ht', if_neg (by simp)]
        exact q.found
      · intro hn
        rw [List.length_cons, Nat.add_sub_add_right]
        exact q.leaf hn
end Go.Proofs.YtlnagdodnkhbmaaGreat

/- What becomes of the pairs, as a way's last node turns. -/
namespace Go.Proofs.YtlnagdodnkhbmaaGreat
open Go.RowKit
set_option maxRecDepth 100000

theorem spl_same {α : Type} {l : List α} {a : Nat} {q : α} (h : l[a]? = some q) : spl l a (a + 1) [q] = l := by
  have hl := (List.getElem?_eq_some_iff.1 h).1
  unfold spl
  have e : l.drop a = q :: l.drop (a + 1) := by rw [List.drop_eq_getElem_cons hl]; congr 1; exact (List.getElem?_eq_some_iff.1 h).2
  rw [List.append_assoc]
  show l.take a ++ (q :: l.drop (a + 1)) = l
  rw [← e, List.take_append_drop]
/-- One pair of a node in the place of another. -/
def repT (t : T) (a : Nat) (p : Pr) : T := .nd (spl t.ps a (a + 1) [p]) t.ks
theorem repT_len {t : T} {a : Nat} (h : a < t.ps.length) (p : Pr) : (repT t a p).ps.length = t.ps.length := by
  have := spl_len (l := t.ps) (o := [p]) (a := a) (b := a + 1) (by omega) (by omega)
  show (spl t.ps a (a + 1) [p]).length = _
  simp at this; omega
theorem repT_same {t : T} {a : Nat} {q : Pr} (h : t.ps[a]? = some q) : repT t a q = t := by
  unfold repT; rw [spl_same h]; exact (T.eta t).symm
theorem repT_ok {o h lo hi : Nat} {t : T} {a : Nat} (ht : Ok o h lo hi t) (ha : a < t.ps.length) (p : Pr) : Ok o h lo hi (repT t a p) := by
  have e := repT_len ha p
  cases h with
  | zero => exact ⟨by rw [e]; exact ht.1, ht.2⟩
  | succ h => exact ⟨by rw [e]; exact ht.1, by rw [e]; exact ht.2.1, ht.2.2⟩
theorem repT_take {t : T} {a : Nat} (ha : a < t.ps.length) (p : Pr) : (repT t a p).ps.take a = t.ps.take a := by
  show (spl t.ps a (a + 1) [p]).take a = _
  unfold spl
  rw [List.append_assoc, List.take_append_of_le_length (by simp; omega), List.take_take, Nat.min_self]
theorem repT_at {t : T} {a : Nat} (ha : a < t.ps.length) (p : Pr) : (repT t a p).ps[a]? = some p := by
  show (spl t.ps a (a + 1) [p])[a]? = _
  unfold spl
  rw [List.append_assoc, List.getElem?_append_right (by simp; omega)]
  simp [Nat.min_eq_left (Nat.le_of_lt ha)]
theorem repT_drop {t : T} {a : Nat} (ha : a < t.ps.length) (p : Pr) : (repT t a p).ps.drop (a + 1) = t.ps.drop (a + 1) := by
  show (spl t.ps a (a + 1) [p]).drop (a + 1) = _
  unfold spl
  rw [List.drop_append_of_le_length (by simp; omega)]
  have : (t.ps.take a ++ [p]).drop (a + 1) = [] := List.drop_of_length_le (by simp; omega)
  rw [this]; rfl
/-- What stands ahead of a pair of a node, and behind it. -/
def bef (h : Nat) (t : T) (a : Nat) : List Pr := match h with
  | 0 => t.ps.take a
  | h + 1 => LL h t a ++ (match t.ks[a]? with | some k => flat h k | none => [])
def aft (h : Nat) (t : T) (a : Nat) : List Pr := match h with
  | 0 => t.ps.drop (a + 1)
  | h + 1 => inter (t.ps.drop (a + 1)) ((t.ks.drop (a + 1)).map (flat h))
theorem rep_flat {o h lo hi : Nat} {t : T} {a : Nat} (ht : Ok o h lo hi t) (ha : a < t.ps.length) (p : Pr) : flat h (repT t a p) = bef h t a ++ p :: aft h t a := by
  cases h with
  | zero =>
    show spl t.ps a (a + 1) [p] = t.ps.take a ++ p :: t.ps.drop (a + 1)
    unfold spl; simp
  | succ h =>
    have hkl := ht.2.1
    obtain ⟨k, hk⟩ : ∃ k, t.ks[a]? = some k := ⟨t.ks[a]'(by omega), List.getElem?_eq_getElem _⟩
    have e := repT_len ha p
    rw [flat_at (t := repT t a p) (a := a) (by omega) hk, RR_some (repT_at ha p), repT_drop ha p]
    show LL h (repT t a p) a ++ flat h k ++ p :: inter (t.ps.drop (a + 1)) ((t.ks.drop (a + 1)).map (flat h)) = (LL h t a ++ (match t.ks[a]? with | some k => flat h k | none => [])) ++ p :: inter (t.ps.drop (a + 1)) ((t.ks.drop (a + 1)).map (flat h))
    rw [hk]
    have e2 : LL h (repT t a p) a = LL h t a := by unfold LL; rw [repT_take ha p]; rfl
    rw [e2]
theorem node_flat {o h lo hi : Nat} {t : T} {a : Nat} {q : Pr} (ht : Ok o h lo hi t) (hq : t.ps[a]? = some q) : flat h t = bef h t a ++ q :: aft h t a := by
  have := rep_flat ht (List.getElem?_eq_some_iff.1 hq).1 q
  rwa [repT_same hq] at this

section
variable {o H lo : Nat} {t : T} {k : List Nat} {init : List (T × Nat)} {tl : T}
/-- The pairs, about the key that is there. -/
theorem WayOf.split (q : WayOf o H lo t k init tl) (hr : Rising (flat H t)) {v : List Nat} (hv : tl.ps[atN tl.ps k]? = some (k, v)) :
    ∃ X Z, flat H t = X ++ (k, v) :: Z ∧ (∀ x ∈ X, x.1 < k) ∧ X = LLp H init ++ bef (H - init.length) tl (atN tl.ps k) ∧ Z = aft (H - init.length) tl (atN tl.ps k) ++ RRp H init := by
  refine ⟨_, _, ?_, ?_, rfl, rfl⟩
  · rw [q.fl, node_flat q.last hv]; simp
  · have h := hr
    rw [q.fl, node_flat q.last hv] at h
    have h2 : Rising ((LLp H init ++ bef (H - init.length) tl (atN tl.ps k)) ++ ((k, v) :: (aft (H - init.length) tl (atN tl.ps k) ++ RRp H init))) := by simpa using h
    exact fun x hx => (rising_app h2).2.2 x hx (k, v) List.mem_cons_self
theorem WayOf.get (q : WayOf o H lo t k init tl) (hr : Rising (flat H t)) {v : List Nat} (hv : tl.ps[atN tl.ps k]? = some (k, v)) : getL (flat H t) k = some v := by
  obtain ⟨X, Z, h1, h2, _, _⟩ := q.split hr hv
  rw [h1]
  exact (at_found h2).2
theorem WayOf.put (ho : 2 ≤ o) (hlo : 1 ≤ lo ∨ H = 0) (q : WayOf o H lo t k init tl) (hr : Rising (flat H t)) {v : List Nat} (hv : tl.ps[atN tl.ps k]? = some (k, v)) (v' : List Nat) :
    flat H (upT o init (repT tl (atN tl.ps k) (k, v'))) = putL (flat H t) k v' := by
  have hlt := (List.getElem?_eq_some_iff.1 hv).1
  have hk := repT_ok q.last hlt (k, v')
  have hk2 : Ok o (H - init.length) (if init.length = 0 then 0 else o - 2) (2 * o) (repT tl (atN tl.ps k) (k, v')) := by
    refine hk.to_ ?_ (by have := hk.len; omega)
    have := hk.len.1
    split
    · omega
    · rename_i hne; rw [if_neg hne] at this; omega
  have hpok : POk o H 1 init := by
    rcases hlo with h | h
    · have := q.pok
      cases init with
      | nil => exact POk.nil_ _ _ _
      | cons x r =>
        cases H with
        | zero => exact this.elim
        | succ H => exact ⟨this.1.to_ (by have := this.1.len; omega) this.1.len.2, this.2.1, this.2.2⟩
    · subst h
      cases init with
      | nil => exact POk.nil_ _ _ _
      | cons x r => exact (q.pok).elim
  rw [up_flat ho (Nat.le_refl 1) hpok hk2, rep_flat q.last hlt]
  obtain ⟨X, Z, h1, h2, h3, h4⟩ := q.split hr hv
  have hf := at_found (Z := Z) (v := v) h2
  unfold putL
  rw [h1, hf.1, hf.2]
  simp only [Option.isSome_some, if_true]
  rw [List.take_left' rfl, show X.length + 1 = (X ++ [(k, v)]).length by simp, show X ++ (k, v) :: Z = (X ++ [(k, v)]) ++ Z by simp, List.drop_left' rfl, h3, h4]
  simp
theorem pok_one (hlo : 1 ≤ lo ∨ H = 0) (hp : POk o H lo init) : POk o H 1 init := by
  cases init with
  | nil => exact POk.nil_ _ _ _
  | cons x r =>
    cases H with
    | zero => exact hp.elim
    | succ H =>
      rcases hlo with h | h
      · exact ⟨hp.1.to_ (by have := hp.1.len; omega) hp.1.len.2, hp.2.1, hp.2.2⟩
      · omega
theorem putL_new {X Z : List Pr} {v : List Nat} (hX : ∀ x ∈ X, x.1 < k) (hZ : ∀ z ∈ Z, k < z.1) : putL (X ++ Z) k v = X ++ (k, v) :: Z := by
  have hf := at_none hX hZ
  unfold putL
  rw [hf.1, hf.2]
  simp
theorem delL_found {X Z : List Pr} {v : List Nat} (hX : ∀ x ∈ X, x.1 < k) : delL (X ++ (k, v) :: Z) k = X ++ Z := by
  have hf := at_found (Z := Z) (v := v) hX
  unfold delL
  rw [hf.1, List.take_left' rfl, show X.length + 1 = (X ++ [(k, v)]).length by simp, show X ++ (k, v) :: Z = (X ++ [(k, v)]) ++ Z by simp, List.drop_left' rfl]
/-- The pairs, about the place of a key that is not there. -/
theorem WayOf.gap (q : WayOf o H lo t k init tl) (hr : Rising (flat H t)) (hn : getL tl.ps k = none) :
    ∃ X Z, flat H t = X ++ Z ∧ (∀ x ∈ X, x.1 < k) ∧ (∀ z ∈ Z, k < z.1) ∧ X = LLp H init ++ tl.ps.take (atN tl.ps k) ∧ Z = tl.ps.drop (atN tl.ps k) ++ RRp H init := by
  have h0 := q.leaf hn
  have hfl := q.fl
  rw [h0] at hfl
  have hfl' : flat H t = LLp H init ++ tl.ps ++ RRp H init := hfl
  have hrt : Rising tl.ps := by
    rw [hfl'] at hr
    exact (rising_app (rising_app hr).1).2.1
  refine ⟨_, _, ?_, ?_, ?_, rfl, rfl⟩
  · rw [hfl']
    rw [List.append_assoc, List.append_assoc, ← List.append_assoc (tl.ps.take _), List.take_append_drop]
  · intro x hx
    rcases List.mem_append.1 hx with hx | hx
    · exact q.ahead x hx
    · obtain ⟨i, hi⟩ := List.getElem?_of_mem hx
      rw [List.getElem?_take] at hi
      split at hi
      · exact (atN_iff hrt hi).2 (by assumption)
      · cases hi
  · intro z hz
    rcases List.mem_append.1 hz with hz | hz
    · obtain ⟨i, hi⟩ := List.getElem?_of_mem hz
      rw [List.getElem?_drop] at hi
      have h1 : ¬ z.1 < k := fun h => by have := (atN_iff hrt hi).1 h; omega
      refine lt_of_not h1 fun e => ?_
      -- it would be there
      obtain ⟨p, hp⟩ : ∃ p, tl.ps[atN tl.ps k]? = some p := ⟨tl.ps[atN tl.ps k]'(by have := (List.getElem?_eq_some_iff.1 hi).1; omega), List.getElem?_eq_getElem _⟩
      have hpk : ¬ p.1 < k := fun h => by have := (atN_iff hrt hp).1 h; omega
      by_cases hi0 : i = 0
      · rw [hi0, Nat.add_zero] at hi
        rw [hp] at hi; injection hi with hi
        unfold getL at hn
        rw [hp, hi] at hn
        simp [e] at hn
      · have hlt : p.1 < z.1 := by
          obtain ⟨h1, e1⟩ := List.getElem?_eq_some_iff.1 hp
          obtain ⟨h2, e2⟩ := List.getElem?_eq_some_iff.1 hi
          rw [← e1, ← e2]
          exact List.pairwise_iff_getElem.1 hrt _ _ h1 h2 (by omega)
        rw [e] at hlt
        exact hpk hlt
    · exact q.behind z hz
theorem WayOf.none_ (q : WayOf o H lo t k init tl) (hr : Rising (flat H t)) (hn : getL tl.ps k = none) : getL (flat H t) k = none := by
  obtain ⟨X, Z, h1, h2, h3, _, _⟩ := q.gap hr hn
  rw [h1]
  exact (at_none h2 h3).2
/-- A leaf with other pairs. -/
theorem WayOf.leafs (ho : 2 ≤ o) (hlo : 1 ≤ lo ∨ H = 0) (q : WayOf o H lo t k init tl) (h0 : H - init.length = 0) {ps : List Pr} (h1 : tl.ps.length ≤ ps.length + 1) (h2 : ps.length ≤ tl.ps.length + 1) :
    flat H (upT o init (.nd ps [])) = LLp H init ++ ps ++ RRp H init ∧ Ok o (H - init.length) (if init.length = 0 then 0 else o - 2) (2 * o) (.nd ps []) := by
  have hl := q.last.len
  have hk2 : Ok o (H - init.length) (if init.length = 0 then 0 else o - 2) (2 * o) (.nd ps []) := by
    rw [h0]
    refine ⟨⟨?_, ?_⟩, rfl⟩
    · have := hl.1
      show _ ≤ ps.length
      split
      · omega
      · rename_i hne; rw [if_neg hne] at this; omega
    · show ps.length ≤ _
      omega
  refine ⟨?_, hk2⟩
  rw [up_flat ho (Nat.le_refl 1) (pok_one hlo q.pok) hk2, h0]
  rfl
end

/-! Behind all of it: the root. -/
def RootOk (o : Nat) (r : Nat × T) : Prop := Ok o r.1 (if r.1 = 0 then 0 else 1) (2 * o - 1) r.2
theorem coll_ok {o : Nat} (ho : 2 ≤ o) : ∀ {h : Nat} {t : T}, Ok o h 0 (2 * o - 1) t → RootOk o (collT h t) ∧ flat (collT h t).1 (collT h t).2 = flat h t
  | 0, t, ht => ⟨ht.to_ (Nat.zero_le _) ht.len.2, rfl⟩
  | h + 1, t, ht => by
    by_cases he : t.ps = []
    · cases hks : t.ks with
      | nil => have := ht.2.1; rw [hks] at this; simp at this
      | cons k r =>
        have e : collT (h + 1) t = collT h k := by show (if t.ps = [] then _ else _) = _; rw [if_pos he, hks]
        have hr : r = [] := by
          have := ht.2.1
          rw [hks, he] at this
          simp at this
          exact this
        have hk := ht.2.2 k (by rw [hks]; exact List.mem_cons_self)
        obtain ⟨h1, h2⟩ := coll_ok ho (hk.to_ (Nat.zero_le _) hk.len.2)
        rw [e]
        refine ⟨h1, h2.trans ?_⟩
        show flat h k = inter t.ps (t.ks.map (flat h))
        rw [he, hks, hr]
        show flat h k = flat h k ++ []
        simp
    · have e : collT (h + 1) t = (h + 1, t) := by show (if t.ps = [] then _ else _) = _; rw [if_neg he]
      rw [e]
      refine ⟨ht.to_ ?_ ht.len.2, rfl⟩
      rw [if_neg (by simp)]
      rcases Nat.eq_zero_or_pos t.ps.length with h0 | h0
      · exact absurd (List.eq_nil_of_length_eq_zero h0) he
      · exact h0
theorem root_ok {o H : Nat} (ho : 2 ≤ o) {u : T} (hu : Ok o H 0 (2 * o) u) : RootOk o (rootT o H u) ∧ flat (rootT o H u).1 (rootT o H u).2 = flat H u := by
  have hul := hu.len
  have hfl := parts_flat ho hu
  unfold rootT
  by_cases hs : u.ps.length ≤ 2 * o - 1
  · have e : partsT o u = ([], [u]) := by unfold partsT; rw [if_pos hs]
    rw [e]
    show RootOk o (collT H u) ∧ _ = _
    obtain ⟨h1, h2⟩ := coll_ok ho (hu.to_ (Nat.zero_le _) hs)
    exact ⟨h1, h2⟩
  · obtain ⟨p1, p2, p3⟩ := parts_ok ho hu (by omega) (by omega)
    have hb : (partsT o u).1.length = 1 := by
      unfold partsT; rw [if_neg hs]; simp; omega
    have hok : Ok o (H + 1) 0 (2 * o - 1) (.nd (partsT o u).1 (partsT o u).2) := ⟨⟨Nat.zero_le _, by show (partsT o u).1.length ≤ _; omega⟩, p2, p1⟩
    obtain ⟨h1, h2⟩ := coll_ok ho hok
    exact ⟨h1, h2.trans hfl⟩
end Go.Proofs.YtlnagdodnkhbmaaGreat

namespace Go.Proofs.YtlnagdodnkhbmaaGreat
open Go.RowKit
set_option maxRecDepth 100000

/-- In the world w block p is a tree of order o that has the pairs l, on blocks of P. -/
structure TreeIn (w : World) (p o : Nat) (l : List Pr) (P : Bl) (H g : Nat) (t : T) : Prop where
  c : TreeC w p o l.length g
  node : NodeAt P w H g t
  under : Under P w
  out : ¬ P p
  ok : RootOk o (H, t)
  fl : flat H t = l
  rise : Rising l
  byt : PByt l
  o2 : 2 ≤ o
  o16 : o ≤ 16
theorem deep_le {o : Nat} (ho : 2 ≤ o) : ∀ {h lo hi : Nat} {t : T}, 1 ≤ lo → Ok o h lo hi t → h + 1 ≤ (flat h t).length
  | 0, lo, hi, t, hlo, ht => by have := ht.1.1; show 0 + 1 ≤ t.ps.length; omega
  | h + 1, lo, hi, t, hlo, ht => by
    obtain ⟨k, hk⟩ : ∃ k, t.ks[0]? = some k := ⟨t.ks[0]'(by have := ht.2.1; omega), List.getElem?_eq_getElem _⟩
    have h1 := deep_le ho (lo := o - 1) (by omega) (ht.2.2 k (List.mem_of_getElem? hk))
    obtain ⟨p, hp⟩ : ∃ p, t.ps[0]? = some p := ⟨t.ps[0]'(by have := ht.1.1; omega), List.getElem?_eq_getElem _⟩
    rw [flat_at (Nat.zero_le _) hk, RR_some hp]
    simp
    omega
section
variable {w w' : World} {p o : Nat} {l : List Pr} {P : Bl} {H g : Nat} {t : T}
theorem TreeIn.full (h : TreeIn w p o l P H g t) : Full H t := Ok.full h.ok
theorem TreeIn.good (h : TreeIn w p o l P H g t) : GoodT H t := good_of h.ok h.o16 (by have := h.o16; omega) (by rw [h.fl]; exact h.rise) (by rw [h.fl]; exact h.byt)
theorem TreeIn.deep (h : TreeIn w p o l P H g t) (hl : l.length ≤ 5000) : H ≤ 5000 := by
  rcases Nat.eq_zero_or_pos H with h0 | h0
  · omega
  · have h1 := h.ok
    unfold RootOk at h1
    rw [if_neg (by show ¬ H = 0; omega)] at h1
    have := deep_le h.o2 (Nat.le_refl 1) h1
    have hf := h.fl
    simp only at this
    rw [hf] at this
    omega
theorem TreeIn.keep (h : TreeIn w p o l P H g t) (hp : w'.heap[p]? = w.heap[p]?) (hk : ∀ b, P b → w'.heap[b]? = w.heap[b]?) (hs : w.heap.size ≤ w'.heap.size) : TreeIn w' p o l P H g t :=
  ⟨h.c.keep hp, NodeAt.keep hk h.node, h.under.later hs, h.out, h.ok, h.fl, h.rise, h.byt, h.o2, h.o16⟩
theorem TreeIn.below (h : TreeIn w p o l P H g t) (hb : Below w.heap.size w w') : TreeIn w' p o l P H g t := h.keep (hb.block p h.c.lt) (h.under.stay hb) hb.size
theorem TreeIn.lo (_h : TreeIn w p o l P H g t) : 1 ≤ (if H = 0 then 0 else 1) ∨ H = 0 := by
  by_cases h0 : H = 0
  · exact .inr h0
  · left; rw [if_neg h0]; exact Nat.le_refl _
theorem TreeIn.way (h : TreeIn w p o l P H g t) (k : List Nat) : ∃ init tl, WayOf o H (if H = 0 then 0 else 1) t k init tl := way_of h.o2 h.ok (by rw [h.fl]; exact h.rise)
end

/-- A way's steps, but the last, and the last. -/
theorem way_last {P : Bl} {w : World} {H al : Nat} {ss : List (Nat × Nat)} {init : List (T × Nat)} {tl : T} (h : WayAt P w H ss (init ++ [(tl, al)])) :
    ∃ ss0 gl, ss = ss0 ++ [(gl, al)] ∧ WayAt P w H ss0 init ∧ NodeAt P w (H - init.length) gl tl := by
  have hl := h.len
  simp at hl
  obtain ⟨s, hs⟩ : ∃ s, ss[init.length]? = some s := ⟨ss[init.length]'(by omega), List.getElem?_eq_getElem _⟩
  obtain ⟨q1, q2⟩ := h.node init.length s (tl, al) hs (by rw [List.getElem?_append_right (Nat.le_refl _)]; simp)
  have e : ss = ss.take init.length ++ [s] := by
    conv => lhs; rw [← List.take_append_drop init.length ss]
    congr 1
    have hlt := (List.getElem?_eq_some_iff.1 hs).1
    rw [List.drop_eq_getElem_cons hlt, (List.getElem?_eq_some_iff.1 hs).2, List.drop_of_length_le (by omega)]
  refine ⟨ss.take init.length, s.1, ?_, ⟨by simp; omega, ?_, fun j s' x h1 h2 => ?_⟩, q2⟩
  · have hs2 : s = (s.1, al) := by
      obtain ⟨a, b⟩ := s
      exact Prod.ext rfl q1
    rw [← hs2]; exact e
  · have := h.deep; simp; omega
  · rw [List.getElem?_take] at h1
    split at h1
    · exact h.node j s' x h1 (by rw [List.getElem?_append_left (by assumption)]; exact h2)
    · cases h1

/-! Get -/
theorem tree_get_bad (w : World) (p : Nat) (k : List Nat) (hk : k.length ≤ 5000) (h64 : key64 k = false) : Calls Tryz.prog 57 #[.pointer (some ⟨p, 0, none⟩), .string (str k)] w fun e w' => e = .returned (.tuple #[.string (str []), .int .i64 13]) ∧ Below w.heap.size w w' := by
  rw [← str_nil]
  go_enter Tryz.func57, Tryz.ntmps57
  go_wp2_with fail
  refine (check_any w p k (by omega)).mono ?_
  rw [show checkR k = 13 by unfold checkR; rw [h64]; rfl]
  rintro e w' ⟨rfl, rfl⟩
  go_wp2
  go_ret2
  exact ⟨rfl, Below.refl _ _⟩
set_option maxHeartbeats 1000000 in
theorem tree_get_none (w : World) (p o : Nat) (l : List Pr) (P : Bl) (H g : Nat) (t : T) (k : List Nat) (hT : TreeIn w p o l P H g t) (hl : l.length ≤ 5000) (hkb : Byt k) (hk : k.length ≤ 5000) (h64 : key64 k = true) (hf : foundT H t k = false) :
    Calls Tryz.prog 57 #[.pointer (some ⟨p, 0, none⟩), .string (str k)] w fun e w' => e = .returned (.tuple #[.string (str []), .int .i64 14]) ∧ Below w.heap.size w w' := by
  rw [← str_nil]
  have c2 := hT.c.c2'
  have HD := hid (down_any w P H g t k hT.node hT.under hT.good hT.full hkb (hT.deep hl))
  have HF := hid hf
  clear hT hf
  go_enter Tryz.func57, Tryz.ntmps57
  go_wp2_with fail
  refine (check_any w p k (by omega)).mono ?_
  rw [show checkR k = 0 by unfold checkR; rw [h64]; rfl]
  rintro e w' ⟨rfl, rfl⟩
  go_wp2_with fail
  refine HD.out.mono ?_
  rw [HF.out]
  rintro e w1 ⟨v, ss, rfl, hb, hm, _⟩
  obtain ⟨Aw, nw, cw, rfl⟩ := hm.rows.form
  have HB := hid hb
  clear hb hm
  go_wp2
  go_ret2
  exact ⟨rfl, HB.out⟩
/-- The last step of a way, where it lies. -/
theorem last_cells {w : World} {A : Option Addr} {n c gl al : Nat} {ss0 : List (Nat × Nat)} (h : Elems 2 cS w (.slice A n c) (ss0 ++ [(gl, al)])) :
    ∃ ad, A = some ad ∧ n = ss0.length + 1 ∧ w.cell? (ad.add (ss0.length * 2)) = some (.pointer (some ⟨gl, 0, none⟩)) ∧ w.cell? { block := (ad.add (ss0.length * 2)).block, off := (ad.add (ss0.length * 2)).off + 1, spot := none } = some (.int .i64 (al : Int)) := by
  obtain ⟨ad, rfl, h0, h1⟩ := h.step (i := ss0.length) (s := (gl, al)) (by rw [List.getElem?_append_right (Nat.le_refl _)]; simp)
  exact ⟨ad, rfl, by have := h.cap.1; simpa using this, h0, h1⟩
set_option maxHeartbeats 2000000 in
theorem tree_get_some (w : World) (p o : Nat) (l : List Pr) (P : Bl) (H g : Nat) (t : T) (k v : List Nat) (hT : TreeIn w p o l P H g t) (hl : l.length ≤ 5000) (hkb : Byt k) (hk : k.length ≤ 5000) (h64 : key64 k = true)
    (init : List (T × Nat)) (tl : T) (hq : WayOf o H (if H = 0 then 0 else 1) t k init tl) (hv : tl.ps[atN tl.ps k]? = some (k, v)) :
    Calls Tryz.prog 57 #[.pointer (some ⟨p, 0, none⟩), .string (str k)] w fun e w' => e = .returned (.tuple #[.string (str v), .int .i64 0]) ∧ Below w.heap.size w w' := by
  have c2 := hT.c.c2'
  have HD := hid (down_any w P H g t k hT.node hT.under hT.good hT.full hkb (hT.deep hl))
  have HF : Hid (foundT H t k = true) := by show _ = _; rw [hq.found]; unfold getL; rw [hv]; simp
  have HQ := hid hq.path
  have HU := hid hT.under
  have HV := hid hv
  have HIL : Hid (init.length ≤ 5000) := by have := hq.pok.len; have := hT.deep hl; show _ ≤ _; omega
  clear hT hq hv
  go_enter Tryz.func57, Tryz.ntmps57
  go_wp2_with fail
  refine (check_any w p k (by omega)).mono ?_
  rw [show checkR k = 0 by unfold checkR; rw [h64]; rfl]
  rintro e w' ⟨rfl, rfl⟩
  go_wp2_with fail
  refine HD.out.mono ?_
  rw [HF.out]
  rintro e w1 ⟨vw, ss, rfl, hb, hm, hw⟩
  rw [HQ.out] at hw
  obtain ⟨ss0, gl, rfl, hw0, hn⟩ := way_last hw
  obtain ⟨Aw, nw, cw, rfl⟩ := hm.rows.form
  obtain ⟨ad, rfl, hnw, s0, s1⟩ := last_cells hm.rows
  have hn1 := NodeAt.keep (HU.out.stay hb) hn
  obtain ⟨vp, vk, gs, hh, _⟩ := nodeAt_iff.1 hn1
  obtain ⟨Ap, capp, rfl⟩ := hh.pairs.slice
  obtain ⟨adp, rfl, p0, p1⟩ := hh.pairs.pcell HV.out
  have c0 := hh.c0
  obtain ⟨m, HM⟩ : ∃ m, Hid (m = ss0.length) := ⟨_, rfl⟩
  obtain ⟨a, HA⟩ : ∃ a, Hid (a = atN tl.ps k) := ⟨_, rfl⟩
  obtain ⟨n1, HN1⟩ : ∃ n, Hid (n = tl.ps.length) := ⟨_, rfl⟩
  have hai : (a : Int) < n1 := by have := (List.getElem?_eq_some_iff.1 HV.out).1; have := HA.out; have := HN1.out; omega
  rw [← HM.out] at s0 s1 hnw
  rw [← HA.out] at s1 p0 p1
  rw [← HN1.out] at c0
  subst hnw
  have hmw : IntKind.i64.wrap ((m : Int) + 1 - 1) = m := by rw [wrap_ok (by omega) (by have := HM.out; have := hw0.len; have := HIL.out; omega)]; omega
  have hmw2 : IntKind.i64.wrap (m : Int) = m := wrap_ok (by omega) (by have := HM.out; have := hw0.len; have := HIL.out; omega)
  have HB := hid hb
  have l0 := blk_lt s0
  clear hh hn1 hn hw0 hw hm hb
  have hb2 : Below w1.heap.size w1 (w1.alloc (.cells #[.pointer (some ⟨gl, 0, none⟩), .int .i64 (a : Int)] 162)) := (Below.refl _ w1).alloc (Nat.le_refl _) _
  have c0' := below_keep hb2 _ _ c0
  have p1' := below_keep hb2 _ _ p1
  clear c0 p0 p1 l0
  have HB2 := hid hb2
  clear hb2
  go_wp2
  go_quiet (fail)
  go_wp2
  go_ret2
  exact ⟨rfl, below_step HB.out (below_drewN' HB2.out _)⟩
end Go.Proofs.YtlnagdodnkhbmaaGreat

namespace Go.Proofs.YtlnagdodnkhbmaaGreat
open Go.RowKit
set_option maxRecDepth 100000

/-- Behind a call that turned the tree: at p alone, and what is new. -/
def Done (P : Bl) (w w' : World) (p o : Nat) (l : List Pr) : Prop := (∃ H g t, TreeIn w' p o l (New P w w') H g t) ∧ Chg [p] w w' [p]
theorem turn_done_as {P P4 : Bl} {w w4 w5 : World} {p o H : Nat} {l : List Pr} {u : T} (hu : Under P w) (hp : p < w.heap.size) (hP : ¬ P p) (hc : Chg [p] w w4 [p]) (ht : TurnEnd P4 w4 w5 p o l.length (rootT o H u)) (h4 : ∀ b, P4 b → New P w w4 b)
    (ho : 2 ≤ o) (h16 : o ≤ 16) (hok : Ok o H 0 (2 * o) u) (hfl : flat H u = l) (hr : Rising l) (hb : PByt l) : (∃ g, TreeIn w5 p o l (New P w w5) (rootT o H u).1 g (rootT o H u).2) ∧ Chg [p] w w5 [p] := by
  obtain ⟨r1, r2⟩ := root_ok ho hok
  obtain ⟨g, t1, t2⟩ := ht.tree
  have hc5 : Chg [p] w w5 [p] := hc.trans ⟨ht.os, ht.tape, ht.output, ht.size, fun b hb hn => ht.block b hb (by simpa using hn), fun b h => .inl h⟩
  refine ⟨⟨g, t1, ?_, ?_, ?_, r1, r2.trans hfl, hr, hb, ho, h16⟩, hc5⟩
  · refine NodeAt.mono (fun b hb => ?_) t2
    rcases hb with hb | hb
    · exact New.later ht.size (h4 b hb)
    · exact .inr ⟨Nat.le_trans hc.size hb.1, hb.2⟩
  · exact hu.new hc5.size
  · rintro (h | h)
    · exact hP h
    · omega
theorem turn_done {P P4 : Bl} {w w4 w5 : World} {p o H : Nat} {l : List Pr} {u : T} (hu : Under P w) (hp : p < w.heap.size) (hP : ¬ P p) (hc : Chg [p] w w4 [p]) (ht : TurnEnd P4 w4 w5 p o l.length (rootT o H u)) (h4 : ∀ b, P4 b → New P w w4 b)
    (ho : 2 ≤ o) (h16 : o ≤ 16) (hok : Ok o H 0 (2 * o) u) (hfl : flat H u = l) (hr : Rising l) (hb : PByt l) : Done P w w5 p o l :=
  let ⟨⟨g, h⟩, hc5⟩ := turn_done_as hu hp hP hc ht h4 ho h16 hok hfl hr hb
  ⟨⟨_, g, _, h⟩, hc5⟩
theorem splitL {l : List Pr} {k : List Nat} (hr : Rising l) : (∀ x ∈ l.take (atN l k), x.1 < k) ∧ (∀ z ∈ l.drop (if (getL l k).isSome = true then atN l k + 1 else atN l k), k < z.1) := by
  refine ⟨fun x hx => ?_, fun z hz => ?_⟩
  · obtain ⟨i, hi⟩ := List.getElem?_of_mem hx
    rw [List.getElem?_take] at hi
    split at hi
    · exact (atN_iff hr hi).2 (by assumption)
    · cases hi
  · obtain ⟨i, hi⟩ := List.getElem?_of_mem hz
    rw [List.getElem?_drop] at hi
    cases hg : getL l k with
    | some v =>
      rw [hg] at hi
      simp only [Option.isSome_some, if_true] at hi
      have hk := getL_some hg
      obtain ⟨h1, e1⟩ := List.getElem?_eq_some_iff.1 hk
      obtain ⟨h2, e2⟩ := List.getElem?_eq_some_iff.1 hi
      have := List.pairwise_iff_getElem.1 hr _ _ h1 h2 (by omega)
      rw [e1, e2] at this
      exact this
    | none =>
      rw [hg] at hi
      simp only [Option.isSome_none, Bool.false_eq_true, if_false] at hi
      have h1 : ¬ z.1 < k := fun h => by have := (atN_iff hr hi).1 h; omega
      obtain ⟨h2, e2⟩ := List.getElem?_eq_some_iff.1 hi
      obtain ⟨p, hp⟩ : ∃ p, l[atN l k]? = some p := ⟨l[atN l k]'(by omega), List.getElem?_eq_getElem _⟩
      obtain ⟨h3, e3⟩ := List.getElem?_eq_some_iff.1 hp
      have h4 : ¬ p.1 < k := fun h => by have := (atN_iff hr hp).1 h; omega
      have h5 : p.1 ≠ k := fun e => by
        unfold getL at hg
        rw [hp] at hg
        simp [e] at hg
      have h6 := lt_of_not h4 h5
      rcases Nat.eq_zero_or_pos i with h0 | h0
      · subst h0
        rw [Nat.add_zero, hp] at hi
        injection hi with hi
        rw [← hi]; exact h6
      · have := List.pairwise_iff_getElem.1 hr _ _ h3 h2 (by omega)
        rw [e3, e2] at this
        exact key_lt_trans h6 this
theorem putL_rising {l : List Pr} (hr : Rising l) (k v : List Nat) : Rising (putL l k v) := by
  obtain ⟨h1, h2⟩ := splitL (k := k) hr
  unfold putL Rising
  rw [List.pairwise_append, List.pairwise_append]
  refine ⟨⟨List.Pairwise.sublist (List.take_sublist _ _) hr, by simp, fun a ha b hb => ?_⟩, List.Pairwise.sublist (List.drop_sublist _ _) hr, fun a ha b hb => ?_⟩
  · simp at hb; rw [hb]; exact h1 a ha
  · rcases List.mem_append.1 ha with ha | ha
    · exact key_lt_trans (h1 a ha) (h2 b hb)
    · simp at ha; rw [ha]; exact h2 b hb
theorem delL_rising {l : List Pr} (hr : Rising l) (k : List Nat) : Rising (delL l k) := by
  unfold delL Rising
  rw [List.pairwise_append]
  refine ⟨List.Pairwise.sublist (List.take_sublist _ _) hr, List.Pairwise.sublist (List.drop_sublist _ _) hr, fun a ha b hb => ?_⟩
  obtain ⟨i, hi⟩ := List.getElem?_of_mem ha
  obtain ⟨j, hj⟩ := List.getElem?_of_mem hb
  rw [List.getElem?_take] at hi
  rw [List.getElem?_drop] at hj
  split at hi
  · obtain ⟨h1, e1⟩ := List.getElem?_eq_some_iff.1 hi
    obtain ⟨h2, e2⟩ := List.getElem?_eq_some_iff.1 hj
    rw [← e1, ← e2]
    exact List.pairwise_iff_getElem.1 hr _ _ h1 h2 (by omega)
  · cases hi
theorem putL_byt {l : List Pr} (h : PByt l) {k v : List Nat} (hk : Byt k) (hv : Byt v) : PByt (putL l k v) := by
  unfold putL
  intro q hq
  simp only [List.mem_append, List.mem_singleton] at hq
  rcases hq with (hq | rfl) | hq
  · exact h q (List.mem_of_mem_take hq)
  · exact ⟨hk, hv⟩
  · exact h q (List.mem_of_mem_drop hq)
theorem delL_byt {l : List Pr} (h : PByt l) (k : List Nat) : PByt (delL l k) := by
  unfold delL
  intro q hq
  rcases List.mem_append.1 hq with hq | hq
  · exact h q (List.mem_of_mem_take hq)
  · exact h q (List.mem_of_mem_drop hq)

/-- turn, with a node that is made of new pairs, and children that were there. -/
theorem turn_new (w3 W : World) (P : Bl) (p o n g H m : Nat) (A : Option Addr) (cap : Nat) (ss0 : List (Nat × Nat)) (last : Nat × Nat) (init : List (T × Nat)) (vp vk : Value) (ps : List Pr) (gs : List Nat) (ks : List T)
    (hc : TreeC w3 p o n g) (h2 : 2 ≤ o) (h16 : o ≤ 16) (hu : Under P w3) (hP : ¬ P p) (hm : m = ss0.length) (hv : Elems 2 cS w3 (.slice A (m + 1) cap) (ss0 ++ [last])) (hw : WayAt P w3 H ss0 init) (hp : POk o H 1 init)
    (hlk : Lay P 1 cK w3 vk gs) (hs : Side (Sub P w3 (H - init.length)) gs ks) (hb : Below w3.heap.size w3 W) (hlp : Lay (New P w3 W) 2 cP W vp ps)
    (hk : Ok o (H - init.length) (if init.length = 0 then 0 else o - 2) (2 * o) (.nd ps ks)) (hH : H ≤ 5000) :
    Calls Tryz.prog 112 #[.pointer (some ⟨p, 0, none⟩), .slice A (m + 1) cap, .pointer (some ⟨W.heap.size, 0, none⟩)] (W.alloc (.cells #[vp, vk] 168)) fun e w5 =>
      (∃ v, e = .returned v) ∧ TurnEnd (New P w3 (W.alloc (.cells #[vp, vk] 168))) (W.alloc (.cells #[vp, vk] 168)) w5 p o n (rootT o H (upT o init (.nd ps ks))) := by
  have hbl : Below W.heap.size W (W.alloc (.cells #[vp, vk] 168)) := (Below.refl _ W).alloc (Nat.le_refl _) _
  have hbw := below_step hb hbl
  have hpl := hc.lt
  rw [← hw.len] at hs hk
  refine turn_any (W.alloc (.cells #[vp, vk] 168)) _ p o n g H W.heap.size m A cap ss0 last init (.nd ps ks) (hc.keep (hbw.block p hpl)) h2 h16 hm (hv.below hbw) ((PathAt.of (P := New P w3 (W.alloc (.cells #[vp, vk] 168))) ⟨hw.len, hw.deep, fun j s x h1 h2 => ?_⟩ hp)) (hu.new hbw.size) (fun h => ?_) ?_ hk hH
  · obtain ⟨q1, q2⟩ := hw.node j s x h1 h2
    exact ⟨q1, NodeAt.mono (fun _ h => .inl h) (NodeAt.keep (hu.stay hbw) q2)⟩
  · rcases h with h | h
    · exact hP h
    · omega
  · refine nodeAt_iff.2 ⟨vp, vk, gs, (hd_new (New P w3 W) vp vk hlp ((hlk.keep (hu.stay hb)).mono fun _ h => .inl h) (hu.new hb.size)).mono fun b hb1 => New.trans hb.size hbl.size hb1, hs.imp fun _ _ hn => Sub.mono (fun _ h => .inl h) (Sub.keep (hu.stay hbw) hn)⟩

/-! Put -/
theorem tree_put_bad (w : World) (p : Nat) (k v : List Nat) (hk : k.length ≤ 5000) (h64 : key64 k = false) : Calls Tryz.prog 81 #[.pointer (some ⟨p, 0, none⟩), .string (str k), .string (str v)] w fun e w' => e = .returned (.tuple #[.string (str []), .bool false, .int .i64 13]) ∧ Below w.heap.size w w' := by
  rw [← str_nil]
  go_enter Tryz.func81, Tryz.ntmps81
  go_wp2_with fail
  refine (check_any w p k (by omega)).mono ?_
  rw [show checkR k = 13 by unfold checkR; rw [h64]; rfl]
  rintro e w' ⟨rfl, rfl⟩
  go_wp2
  go_ret3
  exact ⟨rfl, Below.refl _ _⟩
theorem tree_put_size (w : World) (p : Nat) (k v : List Nat) (hk : k.length ≤ 5000) (h64 : key64 k = true) (hv : 256 < v.length) : Calls Tryz.prog 81 #[.pointer (some ⟨p, 0, none⟩), .string (str k), .string (str v)] w fun e w' => e = .returned (.tuple #[.string (str []), .bool false, .int .i64 23]) ∧ Below w.heap.size w w' := by
  have hs := str_size v
  have hvi : (256 : Int) < v.length := by omega
  rw [← str_nil]
  go_enter Tryz.func81, Tryz.ntmps81
  go_wp2_with fail
  refine (check_any w p k (by omega)).mono ?_
  rw [show checkR k = 0 by unfold checkR; rw [h64]; rfl]
  rintro e w' ⟨rfl, rfl⟩
  go_wp2
  go_ret3
  exact ⟨rfl, Below.refl _ _⟩
end Go.Proofs.YtlnagdodnkhbmaaGreat

namespace Go.Proofs.YtlnagdodnkhbmaaGreat
open Go.RowKit
set_option maxRecDepth 100000

set_option maxHeartbeats 8000000 in
theorem tree_put_some (w : World) (p o : Nat) (l : List Pr) (P : Bl) (H g : Nat) (t : T) (k v : List Nat) (hT : TreeIn w p o l P H g t) (hl : l.length ≤ 5000) (hkb : Byt k) (hvb : Byt v) (hk : k.length ≤ 5000) (hv2 : v.length ≤ 256) (h64 : key64 k = true)
    (init : List (T × Nat)) (tl : T) (hq : WayOf o H (if H = 0 then 0 else 1) t k init tl) (vo : List Nat) (hv : tl.ps[atN tl.ps k]? = some (k, vo)) :
    Calls Tryz.prog 81 #[.pointer (some ⟨p, 0, none⟩), .string (str k), .string (str v)] w fun e w' => e = .returned (.tuple #[.string (str vo), .bool true, .int .i64 0]) ∧ Done P w w' p o (putL l k v) := by
  have hsv := str_size v
  have hvi : ¬ (256 : Int) < v.length := by omega
  have HTI := hid hT
  have HD := hid (fun (W : World) (hb : Below w.heap.size w W) => down_any W P H g t k (NodeAt.keep (hT.under.stay hb) hT.node) (hT.under.later hb.size) hT.good hT.full hkb (hT.deep hl))
  have HF : Hid (foundT H t k = true) := by show _ = _; rw [hq.found]; unfold getL; rw [hv]; simp
  have HQ := hid hq.path
  have HW := hid hq
  have HU := hid hT.under
  have HDEEP := hid (hT.deep hl)
  have HIL : Hid (init.length ≤ 5000) := by have := hq.pok.len; have := hT.deep hl; show _ ≤ _; omega
  have HBY : Hid (Byt k ∧ Byt v) := ⟨hkb, hvb⟩
  have hpl := hT.c.lt
  have HV := hid hv
  clear hv
  clear hT hq hvb
  go_enter Tryz.func81, Tryz.ntmps81
  go_wp2_with fail
  refine (check_any w p k (by omega)).mono ?_
  rw [show checkR k = 0 by unfold checkR; rw [h64]; rfl]
  rintro e w' ⟨rfl, rfl⟩
  go_wp2_with fail
  refine (clone_any w k (by omega)).mono ?_
  rintro e wa ⟨rfl, hba⟩
  have HBA := hid hba
  clear hba
  go_wp2_with fail
  refine (clone_any wa v (by omega)).mono ?_
  rintro e wb ⟨rfl, hbb⟩
  obtain ⟨wc, HWC⟩ : ∃ W, Hid (W = wb.alloc (.cells #[.string (str k), .string (str v)] 164)) := ⟨_, rfl⟩
  have HBC : Hid (Below w.heap.size w wc) := by rw [HWC.out]; exact below_step (below_step HBA.out hbb) ((Below.refl _ _).alloc (Nat.le_refl _) _)
  have HX0 : Hid (wc.cell? ⟨wb.heap.size, 0, none⟩ = some (.string (str k))) := by rw [HWC.out]; exact cell_of_row _ _ 0 _ _ _ (heap_alloc_new wb _)
  have HX1 : Hid (wc.cell? ⟨wb.heap.size, 0 + 1, none⟩ = some (.string (str v))) := by rw [HWC.out]; exact cell_of_row _ _ 1 _ _ _ (heap_alloc_new wb _)
  have HXL : Hid (wb.heap.size < wc.heap.size ∧ w.heap.size ≤ wb.heap.size) := by refine ⟨?_, (below_step HBA.out hbb).size⟩; rw [HWC.out]; simp
  have c2 := (HTI.out.below HBC.out).c.c2'
  rw [HWC.out] at c2
  clear hbb
  go_wp2_with fail
  rw [← HWC.out]
  refine (HD.out wc HBC.out).mono ?_
  rw [HF.out]
  rintro e w1 ⟨vw, ss, rfl, hb, hm, hw⟩
  rw [HQ.out] at hw
  obtain ⟨ss0, gl, rfl, hw0, hn⟩ := way_last hw
  obtain ⟨Aw, nw, cw, rfl⟩ := hm.rows.form
  obtain ⟨ad, rfl, hnw, s0, s1⟩ := last_cells hm.rows
  have HB1 := hid (below_step HBC.out hb)
  obtain ⟨m, HM⟩ : ∃ m, Hid (m = ss0.length) := ⟨_, rfl⟩
  obtain ⟨a, HA⟩ : ∃ a, Hid (a = atN tl.ps k) := ⟨_, rfl⟩
  obtain ⟨n1, HN1⟩ : ∃ n, Hid (n = tl.ps.length) := ⟨_, rfl⟩
  rw [← HM.out] at s0 s1 hnw
  rw [← HA.out] at s1
  subst hnw
  have hm300 : m ≤ 5000 := by have := HM.out; have := hw0.len; have := HIL.out; omega
  have hmw : IntKind.i64.wrap ((m : Int) + 1 - 1) = m := by rw [wrap_ok (by omega) (by omega)]; omega
  have hmw2 : IntKind.i64.wrap (m : Int) = m := wrap_ok (by omega) (by omega)
  -- behind 'last'
  obtain ⟨w2, HW2⟩ : ∃ W, Hid (W = w1.alloc (.cells #[.pointer (some ⟨gl, 0, none⟩), .int .i64 (a : Int)] 162)) := ⟨_, rfl⟩
  have HB12 : Hid (Below w1.heap.size w1 w2) := by rw [HW2.out]; exact (Below.refl _ _).alloc (Nat.le_refl _) _
  have HB2 := hid (below_step HB1.out HB12.out)
  have HWAY : Hid (Elems 2 cS w2 (.slice (some ad) (m + 1) cw) (ss0 ++ [(gl, a)])) := by rw [HA.out]; exact hm.rows.below HB12.out
  have HWB : Hid (ad.block < w2.heap.size ∧ wc.heap.size ≤ ad.block) := by
    have h1 := (hm.own (by simp)).lt ad.block (by rw [mem_ownFoot]; rfl)
    exact ⟨Nat.lt_of_lt_of_le h1.2 HB12.out.size, h1.1⟩
  have HBY2 := HBY.out
  have HW0 : Hid (WayAt P w2 H ss0 init) := hw0.keep ((HU.out.later HBC.out.size).stay (below_step hb HB12.out))
  have HT2 := hid (HTI.out.below HB2.out)
  obtain ⟨vp, vk, gs, hh, hsd⟩ := nodeAt_iff.1 (NodeAt.keep ((HU.out.later HBC.out.size).stay (below_step hb HB12.out)) hn)
  obtain ⟨Ap, capp, rfl⟩ := hh.pairs.slice
  obtain ⟨Bk, capk, rfl⟩ := hh.kids.slice
  have c0 := hh.c0
  have c1 := hh.c1'
  obtain ⟨nk, HNK⟩ : ∃ n, Hid (n = gs.length) := ⟨_, rfl⟩
  have HHD := hid hh
  have HSD := hid hsd
  rw [← HN1.out] at c0
  rw [← HNK.out] at c1
  obtain ⟨adp, rfl, p0, p1⟩ := hh.pairs.pcell HV.out
  rw [← HA.out] at p0 p1
  have hai : (a : Int) < n1 := by have := (List.getElem?_eq_some_iff.1 HV.out).1; have := HA.out; have := HN1.out; omega
  have HPO : Hid (¬ P p ∧ p < w.heap.size) := ⟨HTI.out.out, hpl⟩
  have HBC1 := hid hb
  clear hh hsd hn hw0 hw hm hb HBY2

  go_wp2
  rw [← HW2.out]
  have d0 : w2.cell? ⟨w1.heap.size, 0, none⟩ = some (.pointer (some ⟨gl, 0, none⟩)) := by rw [HW2.out]; exact cell_of_row _ _ 0 _ _ _ (heap_alloc_new w1 _)
  have d1 : w2.cell? ⟨w1.heap.size, 0 + 1, none⟩ = some (.int .i64 (a : Int)) := by rw [HW2.out]; exact cell_of_row _ _ 1 _ _ _ (heap_alloc_new w1 _)
  go_quiet (fail)
  go_wp2

  have JS : Hid (∀ W, Below w2.heap.size w2 W → W.cell? ⟨gl, 0, none⟩ = some (.slice (some adp) n1 capp) ∧ W.cell? ⟨gl, 0 + 1, none⟩ = some (.slice Bk nk capk) ∧ W.cell? ⟨wb.heap.size, 0, none⟩ = some (.string (str k)) ∧ W.cell? ⟨wb.heap.size, 0 + 1, none⟩ = some (.string (str v))) := fun W hb => by
    have hx := (below_step HBC1.out HB12.out)
    exact ⟨below_keep hb _ _ c0, below_keep hb _ _ c1, below_keep hb _ _ (below_keep hx _ _ HX0.out), below_keep hb _ _ (below_keep hx _ _ HX1.out)⟩
  have HSP : Hid (∀ (W : World) (b : Nat), Below w2.heap.size w2 W → w2.heap.size ≤ b → W.heap[b]? = some (.cells #[.string (str k), .string (str v)] 164 (0, 0)) →
      Calls Tryz.prog 113 #[.slice (some adp) n1 capp, .int .i64 (a : Int), .int .i64 ((a : Int) + 1), .slice (some ⟨b, 0, none⟩) 1 1] W fun e w' => ∃ u, e = .returned u ∧ Below w2.heap.size w2 w' ∧ Lay (New P w2 w') 2 cP w' u (spl tl.ps a (a + 1) [(k, v)])) := fun W b hb hle hrow => by
    have hu2 : Under P w2 := HU.out.later HB2.out.size
    have h1 : Lay (New P w2 W) 2 cP W (.slice (some adp) n1 capp) tl.ps := by
      have := HHD.out.pairs
      rw [← HN1.out] at this
      exact (this.keep (hu2.stay hb)).mono fun _ h => .inl h
    have h2 : Lay (New P w2 W) 2 cP W (.slice (some ⟨b, 0, none⟩) 1 1) [(k, v)] := ⟨elems_pair (p := (k, v)) hrow, fun x hx => by
      simp [ownFoot, Value.ownBlock] at hx
      subst hx
      exact .inr ⟨hle, (Array.getElem?_eq_some_iff.1 hrow).1⟩⟩
    have hsz := HW.out.last.len
    have h3 := splice_P W (New P w2 W) (.slice (some adp) n1 capp) tl.ps a (a + 1) _ [(k, v)] h1 h2 (by omega) (by have := HN1.out; omega) (hu2.new hb.size) (by have := HTI.out.o16; omega) (by simp)
    rw [show ((a + 1 : Nat) : Int) = (a : Int) + 1 by omega] at h3
    refine h3.mono ?_
    rintro e w' ⟨u, rfl, hb', hl'⟩
    exact ⟨u, rfl, below_step hb hb', hl'.mono fun x hx => New.trans hb.size hb'.size hx⟩
  have HTC : Hid (∀ (W : World) (A3 : Option Addr) (n3 c3 : Nat), Below w2.heap.size w2 W → Lay (New P w2 W) 2 cP W (.slice A3 n3 c3) (spl tl.ps a (a + 1) [(k, v)]) →
      Calls Tryz.prog 112 #[.pointer (some ⟨p, 0, none⟩), .slice (some ad) (m + 1) cw, .pointer (some ⟨W.heap.size, 0, none⟩)] (W.alloc (.cells #[.slice A3 n3 c3, .slice Bk nk capk] 168)) fun e w5 => (∃ v, e = .returned v) ∧ Done P w w5 p o (putL l k v) ∧
        (w5.cell? ⟨gl, 0, none⟩ = some (.slice (some adp) n1 capp) ∧ w5.cell? ⟨gl, 0 + 1, none⟩ = some (.slice Bk nk capk) ∧ w5.cell? ⟨wb.heap.size, 0, none⟩ = some (.string (str k)) ∧ w5.cell? ⟨wb.heap.size, 0 + 1, none⟩ = some (.string (str v)))) := fun W A3 n3 c3 hb hlp => by
    have hu2 : Under P w2 := HU.out.later HB2.out.size
    have hkid : Ok o (H - init.length) (if init.length = 0 then 0 else o - 2) (2 * o) (.nd (spl tl.ps a (a + 1) [(k, v)]) tl.ks) ∧ flat H (upT o init (.nd (spl tl.ps a (a + 1) [(k, v)]) tl.ks)) = putL l k v := by
      have hlt := (List.getElem?_eq_some_iff.1 HV.out).1
      have h1 := HW.out.put HTI.out.o2 HTI.out.lo (by rw [HTI.out.fl]; exact HTI.out.rise) HV.out v
      have h2 := repT_ok HW.out.last hlt (k, v)
      rw [HTI.out.fl] at h1
      unfold repT at h1 h2
      rw [← HA.out] at h1 h2
      refine ⟨h2.to_ ?_ (by have := h2.len; omega), h1⟩
      have := h2.len.1
      split
      · omega
      · rename_i hne; rw [if_neg hne] at this; omega
    have hcn : TreeC w2 p o (putL l k v).length g := by
      have e : (putL l k v).length = l.length := by
        have h1 := HW.out.get (by rw [HTI.out.fl]; exact HTI.out.rise) HV.out
        rw [HTI.out.fl] at h1
        have h2 := (List.getElem?_eq_some_iff.1 (getL_some h1)).1
        unfold putL
        rw [h1]
        simp
        omega
      rw [e]; exact HT2.out.c
    have hlk := HHD.out.kids
    rw [← HNK.out] at hlk
    refine (turn_new w2 W P p o (putL l k v).length g H m (some ad) cw ss0 (gl, a) init (.slice A3 n3 c3) (.slice Bk nk capk) _ gs tl.ks hcn HTI.out.o2 HTI.out.o16 hu2 HPO.out.1 HM.out HWAY.out HW0.out (pok_one HTI.out.lo HW.out.pok) hlk HSD.out hb hlp hkid.1 HDEEP.out).mono ?_
    rintro e w5 ⟨hv, ht⟩
    have hbl : Below W.heap.size W (W.alloc (.cells #[.slice A3 n3 c3, .slice Bk nk capk] 168)) := (Below.refl _ W).alloc (Nat.le_refl _) _
    have hbw := below_step hb hbl
    refine ⟨hv, turn_done HU.out HPO.out.2 HPO.out.1 ((Chg.of_below (F := [p]) HB2.out).step_below hbw) ht (fun b hb1 => ?_) HTI.out.o2 HTI.out.o16 (up_root HTI.out.o2 (pok_one HTI.out.lo HW.out.pok) hkid.1) hkid.2 (putL_rising HTI.out.rise k v) (putL_byt HTI.out.byt HBY.out.1 HBY.out.2), ?_⟩
    · rcases hb1 with h | h
      · exact .inl h
      · exact .inr ⟨Nat.le_trans HB2.out.size h.1, h.2⟩
    · obtain ⟨j0, j1, j2, j3⟩ := JS.out _ hbw
      have hgl : gl ≠ p := fun e => HPO.out.1 (e ▸ HHD.out.blk)
      have hgs := HHD.out.lt
      have hws := HXL.out
      have hbs := HBC1.out.size
      have hb1s := HB12.out.size
      have k1 := ht.block gl (Nat.lt_of_lt_of_le hgs hbw.size) hgl
      have k2 := ht.block wb.heap.size (by have := hbw.size; omega) (by have := HPO.out.2; omega)
      exact ⟨(World.cell?_of_block k1).trans j0, (World.cell?_of_block k1).trans j1, (World.cell?_of_block k2).trans j2, (World.cell?_of_block k2).trans j3⟩
  have haw : IntKind.i64.wrap ((a : Int) + 1) = (a : Int) + 1 := wrap_ok (by omega) (by have := HA.out; have := atN_le tl.ps k; have := HW.out.last.len; have := HTI.out.o16; omega)
  clear c0 c1 d0 d1 p0 p1 s0 s1 c2

  go_region_held3 (fun W => W.cell? ⟨gl, 0, none⟩ = some (.slice (some adp) n1 capp) ∧ W.cell? ⟨gl, 0 + 1, none⟩ = some (.slice Bk nk capk) ∧ W.cell? ⟨wb.heap.size, 0, none⟩ = some (.string (str k)) ∧ W.cell? ⟨wb.heap.size, 0 + 1, none⟩ = some (.string (str v)))
    (first | assumption | exact JS.out _ (by repeat (with_reducible (first | assumption | exact Below.refl _ _ | refine below_drew1 ?_ | refine below_drewN_ ?_ | refine below_alloc' ?_ _))))
    (first
      | (go_at_call 112; (with_reducible refine (HTC.out _ A3 n3 c3 (by repeat (with_reducible (first | assumption | exact Below.refl _ _ | refine below_drew1 ?_ | refine below_drewN_ ?_ | refine below_alloc' ?_ _))) HL3.out).mono ?_); rintro e w5 ⟨⟨v5, rfl⟩, hdone, hS5⟩; have HDN := hid hdone; clear hdone)
      | (go_at_call 113; (with_reducible refine (HSP.out _ _ (by repeat (with_reducible (first | assumption | exact Below.refl _ _ | refine below_drew1 ?_ | refine below_drewN_ ?_ | refine below_alloc' ?_ _))) ?hle ?hrow).mono ?_); (case hle => simp); (case hrow => (repeat (first | (with_reducible exact hp_new (by simp)) | (with_reducible refine hp_drew ?_) | (with_reducible refine hp_old ?_)))); rintro e w3 ⟨u3, rfl, hb3, hl3⟩; obtain ⟨A3, n3, c3, rfl⟩ := hl3.1.form; have HL3 := hid hl3; clear hl3))
  go_wp2
  go_ret3
  exact ⟨rfl, HDN.out⟩
end Go.Proofs.YtlnagdodnkhbmaaGreat

namespace Go.Proofs.YtlnagdodnkhbmaaGreat
open Go.RowKit
set_option maxRecDepth 100000

set_option maxHeartbeats 8000000 in
theorem tree_put_new_as (w : World) (p o : Nat) (l : List Pr) (P : Bl) (H g : Nat) (t : T) (k v : List Nat) (hT : TreeIn w p o l P H g t) (hl : l.length ≤ 5000) (hkb : Byt k) (hvb : Byt v) (hk : k.length ≤ 5000) (hv2 : v.length ≤ 256) (h64 : key64 k = true)
    (init : List (T × Nat)) (tl : T) (hq : WayOf o H (if H = 0 then 0 else 1) t k init tl) (hv : getL tl.ps k = none) :
    Calls Tryz.prog 81 #[.pointer (some ⟨p, 0, none⟩), .string (str k), .string (str v)] w fun e w' => e = .returned (.tuple #[.string (str []), .bool false, .int .i64 0]) ∧ (∃ g', TreeIn w' p o (putL l k v) (New P w w') (rootT o H (upT o init (.nd (spl tl.ps (atN tl.ps k) (atN tl.ps k) [(k, v)]) tl.ks))).1 g' (rootT o H (upT o init (.nd (spl tl.ps (atN tl.ps k) (atN tl.ps k) [(k, v)]) tl.ks))).2) ∧ Chg [p] w w' [p] := by
  have hsv := str_size v
  have hvi : ¬ (256 : Int) < v.length := by omega
  have HTI := hid hT
  have HD := hid (fun (W : World) (hb : Below w.heap.size w W) => down_any W P H g t k (NodeAt.keep (hT.under.stay hb) hT.node) (hT.under.later hb.size) hT.good hT.full hkb (hT.deep hl))
  have HF : Hid (foundT H t k = false) := by show _ = _; rw [hq.found]; rw [hv]; rfl
  have HQ := hid hq.path
  have HW := hid hq
  have HU := hid hT.under
  have HDEEP := hid (hT.deep hl)
  have HIL : Hid (init.length ≤ 5000) := by have := hq.pok.len; have := hT.deep hl; show _ ≤ _; omega
  have HBY : Hid (Byt k ∧ Byt v) := ⟨hkb, hvb⟩
  have hpl := hT.c.lt
  have HV := hid hv
  clear hv
  rw [← str_nil]
  clear hT hq hvb
  go_enter Tryz.func81, Tryz.ntmps81
  go_wp2_with fail
  refine (check_any w p k (by omega)).mono ?_
  rw [show checkR k = 0 by unfold checkR; rw [h64]; rfl]
  rintro e w' ⟨rfl, rfl⟩
  go_wp2_with fail
  refine (clone_any w k (by omega)).mono ?_
  rintro e wa ⟨rfl, hba⟩
  have HBA := hid hba
  clear hba
  go_wp2_with fail
  refine (clone_any wa v (by omega)).mono ?_
  rintro e wb ⟨rfl, hbb⟩
  obtain ⟨wc, HWC⟩ : ∃ W, Hid (W = wb.alloc (.cells #[.string (str k), .string (str v)] 164)) := ⟨_, rfl⟩
  have HBC : Hid (Below w.heap.size w wc) := by rw [HWC.out]; exact below_step (below_step HBA.out hbb) ((Below.refl _ _).alloc (Nat.le_refl _) _)
  have HX0 : Hid (wc.cell? ⟨wb.heap.size, 0, none⟩ = some (.string (str k))) := by rw [HWC.out]; exact cell_of_row _ _ 0 _ _ _ (heap_alloc_new wb _)
  have HX1 : Hid (wc.cell? ⟨wb.heap.size, 0 + 1, none⟩ = some (.string (str v))) := by rw [HWC.out]; exact cell_of_row _ _ 1 _ _ _ (heap_alloc_new wb _)
  have HXL : Hid (wb.heap.size < wc.heap.size ∧ w.heap.size ≤ wb.heap.size) := by refine ⟨?_, (below_step HBA.out hbb).size⟩; rw [HWC.out]; simp
  have c2 := (HTI.out.below HBC.out).c.c2'
  rw [HWC.out] at c2
  clear hbb
  go_wp2_with fail
  rw [← HWC.out]
  refine (HD.out wc HBC.out).mono ?_
  rw [HF.out]
  rintro e w1 ⟨vw, ss, rfl, hb, hm, hw⟩
  rw [HQ.out] at hw
  obtain ⟨ss0, gl, rfl, hw0, hn⟩ := way_last hw
  obtain ⟨Aw, nw, cw, rfl⟩ := hm.rows.form
  obtain ⟨ad, rfl, hnw, s0, s1⟩ := last_cells hm.rows
  have HB1 := hid (below_step HBC.out hb)
  obtain ⟨m, HM⟩ : ∃ m, Hid (m = ss0.length) := ⟨_, rfl⟩
  obtain ⟨a, HA⟩ : ∃ a, Hid (a = atN tl.ps k) := ⟨_, rfl⟩
  obtain ⟨n1, HN1⟩ : ∃ n, Hid (n = tl.ps.length) := ⟨_, rfl⟩
  rw [← HM.out] at s0 s1 hnw
  rw [← HA.out] at s1
  subst hnw
  have hm300 : m ≤ 5000 := by have := HM.out; have := hw0.len; have := HIL.out; omega
  have hmw : IntKind.i64.wrap ((m : Int) + 1 - 1) = m := by rw [wrap_ok (by omega) (by omega)]; omega
  have hmw2 : IntKind.i64.wrap (m : Int) = m := wrap_ok (by omega) (by omega)
  -- behind 'last'
  obtain ⟨w2, HW2⟩ : ∃ W, Hid (W = w1.alloc (.cells #[.pointer (some ⟨gl, 0, none⟩), .int .i64 (a : Int)] 162)) := ⟨_, rfl⟩
  have HB12 : Hid (Below w1.heap.size w1 w2) := by rw [HW2.out]; exact (Below.refl _ _).alloc (Nat.le_refl _) _
  have HB2 := hid (below_step HB1.out HB12.out)
  have HWAY : Hid (Elems 2 cS w2 (.slice (some ad) (m + 1) cw) (ss0 ++ [(gl, a)])) := by rw [HA.out]; exact hm.rows.below HB12.out
  have HWB : Hid (ad.block < w2.heap.size ∧ wc.heap.size ≤ ad.block) := by
    have h1 := (hm.own (by simp)).lt ad.block (by rw [mem_ownFoot]; rfl)
    exact ⟨Nat.lt_of_lt_of_le h1.2 HB12.out.size, h1.1⟩
  have HBY2 := HBY.out
  have HW0 : Hid (WayAt P w2 H ss0 init) := hw0.keep ((HU.out.later HBC.out.size).stay (below_step hb HB12.out))
  have HT2 := hid (HTI.out.below HB2.out)
  obtain ⟨vp, vk, gs, hh, hsd⟩ := nodeAt_iff.1 (NodeAt.keep ((HU.out.later HBC.out.size).stay (below_step hb HB12.out)) hn)
  obtain ⟨Ap, capp, rfl⟩ := hh.pairs.slice
  obtain ⟨Bk, capk, rfl⟩ := hh.kids.slice
  have c0 := hh.c0
  have c1 := hh.c1'
  obtain ⟨nk, HNK⟩ : ∃ n, Hid (n = gs.length) := ⟨_, rfl⟩
  have HHD := hid hh
  have HSD := hid hsd
  rw [← HN1.out] at c0
  rw [← HNK.out] at c1
  have han : a ≤ n1 := by rw [HA.out, HN1.out]; exact atN_le _ _
  have HPO : Hid (¬ P p ∧ p < w.heap.size) := ⟨HTI.out.out, hpl⟩
  have HBC1 := hid hb
  clear hh hsd hn hw0 hw hm hb HBY2

  have t2 := HT2.out.c
  have q1 := t2.c1'
  have q2 := t2.f 1
  go_wp2
  rw [← HW2.out]
  have d0 : w2.cell? ⟨w1.heap.size, 0, none⟩ = some (.pointer (some ⟨gl, 0, none⟩)) := by rw [HW2.out]; exact cell_of_row _ _ 0 _ _ _ (heap_alloc_new w1 _)
  have d1 : w2.cell? ⟨w1.heap.size, 0 + 1, none⟩ = some (.int .i64 (a : Int)) := by rw [HW2.out]; exact cell_of_row _ _ 1 _ _ _ (heap_alloc_new w1 _)
  have hnw : IntKind.i64.wrap ((l.length : Int) + 1) = ((l.length + 1 : Nat) : Int) := by rw [wrap_ok (by omega) (by omega)]; omega
  go_quiet (fail)
  rename_i nq
  go_wp2
  obtain ⟨w3, HW3⟩ : ∃ W, Hid (W = (w2.drewN nq).setCell ⟨p, 1, none⟩ (.int .i64 ((l.length : Int) + 1))) := ⟨_, rfl⟩
  have hpl2 : p < w2.heap.size := HT2.out.c.lt
  have hfar : ∀ b, b ≠ p → w3.heap[b]? = w2.heap[b]? := fun b hb => by rw [HW3.out]; exact Below.heap_setCell (w2.drewN nq) ⟨p, 1, none⟩ _ b hb
  have hs3 : w3.heap.size = w2.heap.size := by rw [HW3.out]; show ((w2.drewN nq).heap.modify _ _).size = _; rw [Array.size_modify]; rfl
  have hgl : gl ≠ p := fun e => HPO.out.1 (e ▸ HHD.out.blk)
  have hPp : ∀ b, P b → b ≠ p := fun b hb e => HPO.out.1 (e ▸ hb)
  have hst : ∀ b, P b → w3.heap[b]? = w2.heap[b]? := fun b hb => hfar b (hPp b hb)
  have HS3 : Hid (w.heap.size ≤ w3.heap.size) := by show _ ≤ _; rw [hs3]; exact HB2.out.size
  have HHD3 := hid (HHD.out.keep hst)
  have HSD3 := hid (HSD.out.imp fun _ _ hn => Sub.keep hst hn)
  have HW03 := hid (HW0.out.keep hst)
  have HWAY3 : Hid (Elems 2 cS w3 (.slice (some ad) (m + 1) cw) (ss0 ++ [(gl, a)])) := HWAY.out.keep fun b hb => hfar b fun e => by
    simp [ownFoot, Value.ownBlock] at hb
    have := HWB.out.2
    have := HBC.out.size
    have := HPO.out.2
    omega
  have hxx := below_step HBC1.out HB12.out
  have hwp : wb.heap.size ≠ p := by have := HXL.out.2; have := HPO.out.2; omega
  have HX03 : Hid (w3.cell? ⟨wb.heap.size, 0, none⟩ = some (.string (str k))) := (World.cell?_of_block (hfar _ hwp)).trans (below_keep hxx _ _ HX0.out)
  have HX13 : Hid (w3.cell? ⟨wb.heap.size, 0 + 1, none⟩ = some (.string (str v))) := (World.cell?_of_block (hfar _ hwp)).trans (below_keep hxx _ _ HX1.out)
  have HXL3 : Hid (wb.heap.size < w3.heap.size) := by show _ < _; rw [hs3]; have := HXL.out; have := hxx.size; omega
  have HTC3 : Hid (TreeC w3 p o (l.length + 1) g) := by
    rw [HW3.out]
    have := (show TreeC (w2.drewN nq) p o l.length g from HT2.out.c).count (l.length + 1)
    rwa [show ((l.length + 1 : Nat) : Int) = (l.length : Int) + 1 by omega] at this
  have HCH3 : Hid (Chg [p] w w3 [p]) := by
    rw [HW3.out]
    exact ((Chg.of_below (F := [p]) HB2.out).drewN nq).setCell (p := ⟨p, 1, none⟩) (by simp) _
  have c0 := (World.cell?_of_block (a := ⟨gl, 0, none⟩) (hfar gl hgl)).trans c0
  have c1 := (World.cell?_of_block (a := ⟨gl, 0 + 1, none⟩) (hfar gl hgl)).trans c1
  rw [← HW3.out]

  have JS : Hid (∀ W, Below w3.heap.size w3 W → W.cell? ⟨gl, 0, none⟩ = some (.slice Ap n1 capp) ∧ W.cell? ⟨gl, 0 + 1, none⟩ = some (.slice Bk nk capk) ∧ W.cell? ⟨wb.heap.size, 0, none⟩ = some (.string (str k)) ∧ W.cell? ⟨wb.heap.size, 0 + 1, none⟩ = some (.string (str v))) := fun W hb => by
    exact ⟨below_keep hb _ _ c0, below_keep hb _ _ c1, below_keep hb _ _ HX03.out, below_keep hb _ _ HX13.out⟩
  have HSP : Hid (∀ (W : World) (b : Nat), Below w3.heap.size w3 W → w3.heap.size ≤ b → W.heap[b]? = some (.cells #[.string (str k), .string (str v)] 164 (0, 0)) →
      Calls Tryz.prog 113 #[.slice Ap n1 capp, .int .i64 (a : Int), .int .i64 (a : Int), .slice (some ⟨b, 0, none⟩) 1 1] W fun e w' => ∃ u, e = .returned u ∧ Below w3.heap.size w3 w' ∧ Lay (New P w3 w') 2 cP w' u (spl tl.ps a a [(k, v)])) := fun W b hb hle hrow => by
    have hu2 : Under P w3 := HU.out.later HS3.out
    have h1 : Lay (New P w3 W) 2 cP W (.slice Ap n1 capp) tl.ps := by
      have := HHD3.out.pairs
      rw [← HN1.out] at this
      exact (this.keep (hu2.stay hb)).mono fun _ h => .inl h
    have h2 : Lay (New P w3 W) 2 cP W (.slice (some ⟨b, 0, none⟩) 1 1) [(k, v)] := ⟨elems_pair (p := (k, v)) hrow, fun x hx => by
      simp [ownFoot, Value.ownBlock] at hx
      subst hx
      exact .inr ⟨hle, (Array.getElem?_eq_some_iff.1 hrow).1⟩⟩
    have hsz := HW.out.last.len
    have h3 := splice_P W (New P w3 W) (.slice Ap n1 capp) tl.ps a a _ [(k, v)] h1 h2 (by omega) (by have := HN1.out; omega) (hu2.new hb.size) (by have := HTI.out.o16; omega) (by simp)
    
    refine h3.mono ?_
    rintro e w' ⟨u, rfl, hb', hl'⟩
    exact ⟨u, rfl, below_step hb hb', hl'.mono fun x hx => New.trans hb.size hb'.size hx⟩
  have HTC : Hid (∀ (W : World) (A3 : Option Addr) (n3 c3 : Nat), Below w3.heap.size w3 W → Lay (New P w3 W) 2 cP W (.slice A3 n3 c3) (spl tl.ps a a [(k, v)]) →
      Calls Tryz.prog 112 #[.pointer (some ⟨p, 0, none⟩), .slice (some ad) (m + 1) cw, .pointer (some ⟨W.heap.size, 0, none⟩)] (W.alloc (.cells #[.slice A3 n3 c3, .slice Bk nk capk] 168)) fun e w5 => (∃ v, e = .returned v) ∧ ((∃ g', TreeIn w5 p o (putL l k v) (New P w w5) (rootT o H (upT o init (.nd (spl tl.ps a a [(k, v)]) tl.ks))).1 g' (rootT o H (upT o init (.nd (spl tl.ps a a [(k, v)]) tl.ks))).2) ∧ Chg [p] w w5 [p]) ∧
        (w5.cell? ⟨gl, 0, none⟩ = some (.slice Ap n1 capp) ∧ w5.cell? ⟨gl, 0 + 1, none⟩ = some (.slice Bk nk capk) ∧ w5.cell? ⟨wb.heap.size, 0, none⟩ = some (.string (str k)) ∧ w5.cell? ⟨wb.heap.size, 0 + 1, none⟩ = some (.string (str v)))) := fun W A3 n3 c3 hb hlp => by
    have hu2 : Under P w3 := HU.out.later HS3.out
    have hkid : Ok o (H - init.length) (if init.length = 0 then 0 else o - 2) (2 * o) (.nd (spl tl.ps a a [(k, v)]) tl.ks) ∧ flat H (upT o init (.nd (spl tl.ps a a [(k, v)]) tl.ks)) = putL l k v := by
      have hr : Rising (flat H t) := by rw [HTI.out.fl]; exact HTI.out.rise
      obtain ⟨X, Z, g1, g2, g3, g4, g5⟩ := HW.out.gap hr HV.out
      have h0 := HW.out.leaf HV.out
      have hks : tl.ks = [] := by
        have := HW.out.last
        rw [h0] at this
        exact this.2
      have hle : a ≤ tl.ps.length := by rw [HA.out]; exact atN_le _ _
      have hsl := spl_len (l := tl.ps) (o := [(k, v)]) (a := a) (b := a) (Nat.le_refl _) hle
      simp at hsl
      obtain ⟨h1, h2⟩ := HW.out.leafs HTI.out.o2 HTI.out.lo h0 (ps := spl tl.ps a a [(k, v)]) (by omega) (by omega)
      rw [hks]
      refine ⟨h2, h1.trans ?_⟩
      rw [← HTI.out.fl, g1, putL_new g2 g3, g4, g5, ← HA.out]
      unfold spl
      simp
    have hcn : TreeC w3 p o (putL l k v).length g := by
      have e : (putL l k v).length = l.length + 1 := by
        have h1 := HW.out.none_ (by rw [HTI.out.fl]; exact HTI.out.rise) HV.out
        rw [HTI.out.fl] at h1
        have h2 := atN_le l k
        unfold putL
        rw [h1]
        simp
        omega
      rw [e]; exact HTC3.out
    have hlk := HHD3.out.kids
    rw [← HNK.out] at hlk
    refine (turn_new w3 W P p o (putL l k v).length g H m (some ad) cw ss0 (gl, a) init (.slice A3 n3 c3) (.slice Bk nk capk) _ gs tl.ks hcn HTI.out.o2 HTI.out.o16 hu2 HPO.out.1 HM.out HWAY3.out HW03.out (pok_one HTI.out.lo HW.out.pok) hlk HSD3.out hb hlp hkid.1 HDEEP.out).mono ?_
    rintro e w5 ⟨hv, ht⟩
    have hbl : Below W.heap.size W (W.alloc (.cells #[.slice A3 n3 c3, .slice Bk nk capk] 168)) := (Below.refl _ W).alloc (Nat.le_refl _) _
    have hbw := below_step hb hbl
    refine ⟨hv, turn_done_as HU.out HPO.out.2 HPO.out.1 (HCH3.out.step_below hbw) ht (fun b hb1 => ?_) HTI.out.o2 HTI.out.o16 (up_root HTI.out.o2 (pok_one HTI.out.lo HW.out.pok) hkid.1) hkid.2 (putL_rising HTI.out.rise k v) (putL_byt HTI.out.byt HBY.out.1 HBY.out.2), ?_⟩
    · rcases hb1 with h | h
      · exact .inl h
      · exact .inr ⟨Nat.le_trans HS3.out h.1, h.2⟩
    · obtain ⟨j0, j1, j2, j3⟩ := JS.out _ hbw
      have hgl : gl ≠ p := fun e => HPO.out.1 (e ▸ HHD3.out.blk)
      have hgs := HHD3.out.lt
      have hws := HXL.out
      have hbs := HXL3.out
      have k1 := ht.block gl (Nat.lt_of_lt_of_le hgs hbw.size) hgl
      have k2 := ht.block wb.heap.size (by have := hbw.size; omega) (by have := HPO.out.2; omega)
      exact ⟨(World.cell?_of_block k1).trans j0, (World.cell?_of_block k1).trans j1, (World.cell?_of_block k2).trans j2, (World.cell?_of_block k2).trans j3⟩
  have haw : IntKind.i64.wrap ((a : Int) + 1) = (a : Int) + 1 := wrap_ok (by omega) (by have := HA.out; have := atN_le tl.ps k; have := HW.out.last.len; have := HTI.out.o16; omega)
  clear c0 c1 d0 d1 s0 s1 c2 q1 q2 t2 hfar hst hxx hs3 hpl2

  go_region_held3 (fun W => W.cell? ⟨gl, 0, none⟩ = some (.slice Ap n1 capp) ∧ W.cell? ⟨gl, 0 + 1, none⟩ = some (.slice Bk nk capk) ∧ W.cell? ⟨wb.heap.size, 0, none⟩ = some (.string (str k)) ∧ W.cell? ⟨wb.heap.size, 0 + 1, none⟩ = some (.string (str v)))
    (first | assumption | exact JS.out _ (by repeat (with_reducible (first | assumption | exact Below.refl _ _ | refine below_drew1 ?_ | refine below_drewN_ ?_ | refine below_alloc' ?_ _))))
    (first
      | (go_at_call 112; (with_reducible refine (HTC.out _ A3 n3 c3 (by repeat (with_reducible (first | assumption | exact Below.refl _ _ | refine below_drew1 ?_ | refine below_drewN_ ?_ | refine below_alloc' ?_ _))) HL3.out).mono ?_); rintro e w5 ⟨⟨v5, rfl⟩, hdone, hS5⟩; have HDN := hid hdone; clear hdone)
      | (go_at_call 113; (with_reducible refine (HSP.out _ _ (by repeat (with_reducible (first | assumption | exact Below.refl _ _ | refine below_drew1 ?_ | refine below_drewN_ ?_ | refine below_alloc' ?_ _))) ?hle ?hrow).mono ?_); (case hle => simp); (case hrow => (repeat (first | (with_reducible exact hp_new (by simp)) | (with_reducible refine hp_drew ?_) | (with_reducible refine hp_old ?_)))); rintro e w3 ⟨u3, rfl, hb3, hl3⟩; obtain ⟨A3, n3, c3, rfl⟩ := hl3.1.form; have HL3 := hid hl3; clear hl3))
  go_wp2
  go_ret3
  have hdn := HDN.out
  rw [HA.out] at hdn
  exact ⟨rfl, hdn⟩
theorem tree_put_new (w : World) (p o : Nat) (l : List Pr) (P : Bl) (H g : Nat) (t : T) (k v : List Nat) (hT : TreeIn w p o l P H g t) (hl : l.length ≤ 5000) (hkb : Byt k) (hvb : Byt v) (hk : k.length ≤ 5000) (hv2 : v.length ≤ 256) (h64 : key64 k = true)
    (init : List (T × Nat)) (tl : T) (hq : WayOf o H (if H = 0 then 0 else 1) t k init tl) (hv : getL tl.ps k = none) :
    Calls Tryz.prog 81 #[.pointer (some ⟨p, 0, none⟩), .string (str k), .string (str v)] w fun e w' => e = .returned (.tuple #[.string (str []), .bool false, .int .i64 0]) ∧ Done P w w' p o (putL l k v) := by
  refine (tree_put_new_as w p o l P H g t k v hT hl hkb hvb hk hv2 h64 init tl hq hv).mono ?_
  rintro e w' ⟨rfl, ⟨g', h⟩, hc⟩
  exact ⟨rfl, ⟨_, g', _, h⟩, hc⟩
end Go.Proofs.YtlnagdodnkhbmaaGreat

