/- The reference's Changes. -/
import Derived.Test.YtcnhklmfahbaoaaS8
namespace Go.Proofs.Ytcnhklmfahbaoaa
open Go.RowKit

/-- The reference's change: its cells. -/
def cR (c : Cg) : List Value := [.int .i64 (c.1 : Int), .int .i64 c.2.1, .bool c.2.2]
theorem cR_len (c : Cg) : (cR c).length = 3 := rfl
theorem cR_one (c : Cg) : ∀ y ∈ cR c, y.oneCell' = true := by
  intro y hy
  simp [cR] at hy
  rcases hy with rfl | rfl | rfl <;> rfl
theorem rinfo : (Try.prog.info? 49).map (fun i => (i.zero, i.size, i.bytes)) = some (some (.agg #[.int .i64 0, .int .i64 0, .bool false]), 3, 24) := by kernel_rfl

def RRel (W : World) (r s : Ro) (l : List Cg) (v : Value) (wr : World) : Prop :=
  OwnElems 3 cR 49 wr W.heap.size v l ∧ Below W.heap.size W wr ∧ Lies wr W.heap.size r ∧ Lies wr (W.heap.size + 1) s
theorem RRel.drewN {W : World} {r s : Ro} {l : List Cg} {v : Value} {wr : World} (h : RRel W r s l v wr) (n : Nat) : RRel W r s l v (wr.drewN n) :=
  ⟨h.1.keep fun _ _ => rfl, below_drewN' h.2.1 n, h.2.2.1, h.2.2.2⟩
theorem RRel.alloc {W : World} {r s : Ro} {l : List Cg} {v : Value} {wr : World} (h : RRel W r s l v wr) (o : Obj) : RRel W r s l v (wr.alloc o) :=
  ⟨h.1.alloc o, h.2.1.alloc h.2.1.size o, h.2.2.1.below ((Below.refl _ _).alloc (Nat.le_refl _) o), h.2.2.2.below ((Below.refl _ _).alloc (Nat.le_refl _) o)⟩
theorem RRel.step {W : World} {r s : Ro} {l l' : List Cg} {v v' : Value} {w w' : World} (h : RRel W r s l v w) (hO' : OwnElems 3 cR 49 w' W.heap.size v' (l ++ l')) (hg : w.grownBy w' v.ownBlock) : RRel W r s (l ++ l') v' w' :=
  ⟨hO', h.2.1.grown hg h.2.1.size (fun k hk => (h.1.lt k (mem_ownFoot.2 hk)).1),
    h.2.2.1.keep (hg.block _ h.2.2.1.lt fun e => h.1.ne_ h.2.2.1 (by decide) (mem_ownFoot.2 e.symm)),
    h.2.2.2.keep (hg.block _ h.2.2.2.lt fun e => h.1.ne_ h.2.2.2 (by decide) (mem_ownFoot.2 e.symm))⟩
def opt (r : Ro) (b : Bool) : Option Ro := if b then some r else none
theorem one_some {r : Ro} {k : Nat} {x : Int} (a : Bool) (h : r.l[k]? = some x) : one (some r) k a = [(k, x, a)] := by
  unfold one; dsimp only; rw [h]
theorem one_none (k : Nat) (a : Bool) : one none k a = [] := rfl
theorem chg1_none (o : Option Ro) (k : Nat) : chg1 o none k = one o k false := by
  unfold chg1 alikeB
  cases o <;> simp [one_none]
theorem chg1_none' (n : Option Ro) (k : Nat) : chg1 none n k = one n k true := by
  unfold chg1 alikeB
  simp [one_none]
def RChgd (w : World) (l : List Cg) (e : Ending) (w' : World) : Prop := ∃ u, e = .returned u ∧ Elems 3 cR w' u l ∧ Below w.heap.size w w'

set_option maxHeartbeats 1000000 in
set_option maxRecDepth 100000 in
theorem ref_tt (w : World) (r s : Ro) : Calls Try.prog 17 #[rowv r, .bool true, rowv s, .bool true] w (RChgd w (upto (some r) (some s) 4)) := by
  obtain ⟨i0, hi, hz0, hz1, hz2⟩ := info_parts rinfo
  have hst : RRel w r s [] (.slice none 0 0) ((w.alloc (.cells (rowc r) 23)).alloc (.cells (rowc s) 23)) := by
    refine ⟨OwnElems.nil _ _ _ _ _, ((Below.refl _ _).alloc (Nat.le_refl _) _).alloc (by simp) _, (Lies.new w r).below ((Below.refl _ _).alloc (Nat.le_refl _) _), ?_⟩
    have := Lies.new (w.alloc (.cells (rowc r) 23)) s
    rw [show (w.alloc (.cells (rowc r) 23)).heap.size = w.heap.size + 1 by simp] at this
    exact this
  have HST := hid hst
  clear hst
  unfold rowv
  go_enter Try.func17, Try.ntmps17
  go_wp2
  go_loopw [9, 10] (fun v i wr => ∃ k : Nat, k ≤ 4 ∧ i = .int .i64 k ∧ RRel w r s (upto (some r) (some s) k) v wr) (fun _ i _ => 4 - (intOf i).toNat)
  case atStart => exact ⟨0, by omega, rfl, HST.out⟩
  case round =>
    obtain ⟨k, hk4, rfl, hJ⟩ := hrel
    have HJ := hid hJ
    obtain ⟨A, n0, c0, rfl⟩ := hJ.1.rows.form
    have HLN := hid (upto_len (some r) (some s) k)
    clear hJ
    by_cases hlt : k < 4
    · have h4 : (k : Int) < 4 := by omega
      obtain ⟨x, hx⟩ := r.at_ hlt
      obtain ⟨y, hy⟩ := s.at_ hlt
      have hcx := HJ.out.2.2.1.cell hx
      have hcy := HJ.out.2.2.2.cell hy
      have HXY := hid (And.intro hx hy)
      clear hx hy
      by_cases hxy : x = y
      · subst hxy
        go_wp2
        go_quiet (fail)
        go_wp2
        go_roundw
        case rel => exact ⟨k + 1, by omega, by go_num, by rw [upto_succ, chg1_same (by rw [HXY.out.1, HXY.out.2]), List.append_nil]; exact HJ.out.drewN _⟩
        case measure => simp [intOf]; omega
      · have HCK : Hid (chg1 (some r) (some s) k = one (some r) k false ++ one (some s) k true) := chg1_other (by rw [HXY.out.1, HXY.out.2]; intro e; injection e with e; exact hxy e)
        go_wp2
        go_quiet (fail)
        have HJD : Hid (∀ m, RRel w r s _ _ (wr.drewN m)) := fun m => HJ.out.drewN m
        go_wp2_with (first | (at_builtin; refine wpList_append_rows _ rfl (.tmp 29) (.tmp 35) 42 rfl w.heap.size 49 i0 _ 3 24 Try.underlying42 hi hz0 hz1 hz2 rfl (by omega) cR_one _ _ rfl ((HJD.out _).alloc _).1 _ [(k, x, false)] rfl (rows_new _ 3 cR cR_len (k, x, false) 49) (by unfold maxLen; have := HLN.out; simp; omega) (by have := HLN.out; simp; omega) ((HJD.out _).alloc _).2.1.size ?_; intro v' w1 hown1 hgrow1 hf1; have HJ2 := hid (((HJD.out _).alloc _).step hown1 hgrow1); clear hown1 hgrow1 hf1; obtain ⟨A', n', c', rfl⟩ := HJ2.out.1.rows.form; have hcy := HJ2.out.2.2.2.cell HXY.out.2) | (at_builtin; refine wpList_append_rows _ rfl (.tmp 38) (.tmp 44) 42 rfl w.heap.size 49 i0 _ 3 24 Try.underlying42 hi hz0 hz1 hz2 rfl (by omega) cR_one _ _ rfl (HJ2.out.alloc _).1 _ [(k, y, true)] rfl (rows_new _ 3 cR cR_len (k, y, true) 49) (by unfold maxLen; have := HLN.out; simp; omega) (by have := HLN.out; simp; omega) (HJ2.out.alloc _).2.1.size ?_; intro v' w1 hown1 hgrow1 hf1; have HJ3 := hid ((HJ2.out.alloc _).step hown1 hgrow1); clear hown1 hgrow1 hf1; obtain ⟨A', n', c', rfl⟩ := HJ3.out.1.rows.form))
        go_roundw
        case rel => exact ⟨k + 1, by omega, by go_num, by rw [upto_succ, HCK.out, one_some _ HXY.out.1, one_some _ HXY.out.2, ← List.append_assoc]; exact HJ3.out⟩
        case measure => simp [intOf]; omega
    · obtain rfl : k = 4 := by omega
      go_wp2
      go_ret
      exact ⟨_, rfl, HJ.out.1.rows, HJ.out.2.1⟩

set_option maxHeartbeats 1000000 in
set_option maxRecDepth 100000 in
theorem ref_tf (w : World) (r s : Ro) : Calls Try.prog 17 #[rowv r, .bool true, rowv s, .bool false] w (RChgd w (upto (some r) none 4)) := by
  obtain ⟨i0, hi, hz0, hz1, hz2⟩ := info_parts rinfo
  have hst : RRel w r s [] (.slice none 0 0) ((w.alloc (.cells (rowc r) 23)).alloc (.cells (rowc s) 23)) := by
    refine ⟨OwnElems.nil _ _ _ _ _, ((Below.refl _ _).alloc (Nat.le_refl _) _).alloc (by simp) _, (Lies.new w r).below ((Below.refl _ _).alloc (Nat.le_refl _) _), ?_⟩
    have := Lies.new (w.alloc (.cells (rowc r) 23)) s
    rw [show (w.alloc (.cells (rowc r) 23)).heap.size = w.heap.size + 1 by simp] at this
    exact this
  have HST := hid hst
  clear hst
  unfold rowv
  go_enter Try.func17, Try.ntmps17
  go_wp2
  go_loopw [9, 10] (fun v i wr => ∃ k : Nat, k ≤ 4 ∧ i = .int .i64 k ∧ RRel w r s (upto (some r) none k) v wr) (fun _ i _ => 4 - (intOf i).toNat)
  case atStart => exact ⟨0, by omega, rfl, HST.out⟩
  case round =>
    obtain ⟨k, hk4, rfl, hJ⟩ := hrel
    have HJ := hid hJ
    obtain ⟨A, n0, c0, rfl⟩ := hJ.1.rows.form
    have HLN := hid (upto_len (some r) none k)
    clear hJ
    by_cases hlt : k < 4
    · have h4 : (k : Int) < 4 := by omega
      obtain ⟨x, hx⟩ := r.at_ hlt
      obtain ⟨y, hy⟩ := s.at_ hlt
      have hcx := HJ.out.2.2.1.cell hx
      have hcy := HJ.out.2.2.2.cell hy
      have HXY := hid (And.intro hx hy)
      clear hx hy
      go_wp2
      go_quiet (fail)
      have HJD : Hid (∀ m, RRel w r s _ _ (wr.drewN m)) := fun m => HJ.out.drewN m
      go_wp2_with (at_builtin; refine wpList_append_rows _ rfl (.tmp 29) (.tmp 35) 42 rfl w.heap.size 49 i0 _ 3 24 Try.underlying42 hi hz0 hz1 hz2 rfl (by omega) cR_one _ _ rfl ((HJD.out _).alloc _).1 _ [(k, x, false)] rfl (rows_new _ 3 cR cR_len (k, x, false) 49) (by unfold maxLen; have := HLN.out; simp; omega) (by have := HLN.out; simp; omega) ((HJD.out _).alloc _).2.1.size ?_; intro v' w1 hown1 hgrow1 hf1; have HJ2 := hid (((HJD.out _).alloc _).step hown1 hgrow1); clear hown1 hgrow1 hf1; obtain ⟨A', n', c', rfl⟩ := HJ2.out.1.rows.form)
      go_roundw
      case rel => exact ⟨k + 1, by omega, by go_num, by rw [upto_succ, chg1_none, one_some _ HXY.out.1]; exact HJ2.out⟩
      case measure => simp [intOf]; omega
    · obtain rfl : k = 4 := by omega
      go_wp2
      go_ret
      exact ⟨_, rfl, HJ.out.1.rows, HJ.out.2.1⟩

set_option maxHeartbeats 1000000 in
set_option maxRecDepth 100000 in
theorem ref_ft (w : World) (r s : Ro) : Calls Try.prog 17 #[rowv r, .bool false, rowv s, .bool true] w (RChgd w (upto none (some s) 4)) := by
  obtain ⟨i0, hi, hz0, hz1, hz2⟩ := info_parts rinfo
  have hst : RRel w r s [] (.slice none 0 0) ((w.alloc (.cells (rowc r) 23)).alloc (.cells (rowc s) 23)) := by
    refine ⟨OwnElems.nil _ _ _ _ _, ((Below.refl _ _).alloc (Nat.le_refl _) _).alloc (by simp) _, (Lies.new w r).below ((Below.refl _ _).alloc (Nat.le_refl _) _), ?_⟩
    have := Lies.new (w.alloc (.cells (rowc r) 23)) s
    rw [show (w.alloc (.cells (rowc r) 23)).heap.size = w.heap.size + 1 by simp] at this
    exact this
  have HST := hid hst
  clear hst
  unfold rowv
  go_enter Try.func17, Try.ntmps17
  go_wp2
  go_loopw [9, 10] (fun v i wr => ∃ k : Nat, k ≤ 4 ∧ i = .int .i64 k ∧ RRel w r s (upto none (some s) k) v wr) (fun _ i _ => 4 - (intOf i).toNat)
  case atStart => exact ⟨0, by omega, rfl, HST.out⟩
  case round =>
    obtain ⟨k, hk4, rfl, hJ⟩ := hrel
    have HJ := hid hJ
    obtain ⟨A, n0, c0, rfl⟩ := hJ.1.rows.form
    have HLN := hid (upto_len none (some s) k)
    clear hJ
    by_cases hlt : k < 4
    · have h4 : (k : Int) < 4 := by omega
      obtain ⟨x, hx⟩ := r.at_ hlt
      obtain ⟨y, hy⟩ := s.at_ hlt
      have hcx := HJ.out.2.2.1.cell hx
      have hcy := HJ.out.2.2.2.cell hy
      have HXY := hid (And.intro hx hy)
      clear hx hy
      go_wp2
      go_quiet (fail)
      have HJD : Hid (∀ m, RRel w r s _ _ (wr.drewN m)) := fun m => HJ.out.drewN m
      go_wp2_with (at_builtin; refine wpList_append_rows _ rfl (.tmp 38) (.tmp 44) 42 rfl w.heap.size 49 i0 _ 3 24 Try.underlying42 hi hz0 hz1 hz2 rfl (by omega) cR_one _ _ rfl ((HJD.out _).alloc _).1 _ [(k, y, true)] rfl (rows_new _ 3 cR cR_len (k, y, true) 49) (by unfold maxLen; have := HLN.out; simp; omega) (by have := HLN.out; simp; omega) ((HJD.out _).alloc _).2.1.size ?_; intro v' w1 hown1 hgrow1 hf1; have HJ2 := hid (((HJD.out _).alloc _).step hown1 hgrow1); clear hown1 hgrow1 hf1; obtain ⟨A', n', c', rfl⟩ := HJ2.out.1.rows.form)
      go_roundw
      case rel => exact ⟨k + 1, by omega, by go_num, by rw [upto_succ, chg1_none', one_some _ HXY.out.2]; exact HJ2.out⟩
      case measure => simp [intOf]; omega
    · obtain rfl : k = 4 := by omega
      go_wp2
      go_ret
      exact ⟨_, rfl, HJ.out.1.rows, HJ.out.2.1⟩

set_option maxHeartbeats 1000000 in
set_option maxRecDepth 100000 in
theorem ref_ff (w : World) (r s : Ro) : Calls Try.prog 17 #[rowv r, .bool false, rowv s, .bool false] w (RChgd w (upto none none 4)) := by
  obtain ⟨i0, hi, hz0, hz1, hz2⟩ := info_parts rinfo
  have hst : RRel w r s [] (.slice none 0 0) ((w.alloc (.cells (rowc r) 23)).alloc (.cells (rowc s) 23)) := by
    refine ⟨OwnElems.nil _ _ _ _ _, ((Below.refl _ _).alloc (Nat.le_refl _) _).alloc (by simp) _, (Lies.new w r).below ((Below.refl _ _).alloc (Nat.le_refl _) _), ?_⟩
    have := Lies.new (w.alloc (.cells (rowc r) 23)) s
    rw [show (w.alloc (.cells (rowc r) 23)).heap.size = w.heap.size + 1 by simp] at this
    exact this
  have HST := hid hst
  clear hst
  unfold rowv
  go_enter Try.func17, Try.ntmps17
  go_wp2
  go_loopw [9, 10] (fun v i wr => ∃ k : Nat, k ≤ 4 ∧ i = .int .i64 k ∧ RRel w r s (upto none none k) v wr) (fun _ i _ => 4 - (intOf i).toNat)
  case atStart => exact ⟨0, by omega, rfl, HST.out⟩
  case round =>
    obtain ⟨k, hk4, rfl, hJ⟩ := hrel
    have HJ := hid hJ
    obtain ⟨A, n0, c0, rfl⟩ := hJ.1.rows.form
    have HLN := hid (upto_len none none k)
    clear hJ
    by_cases hlt : k < 4
    · have h4 : (k : Int) < 4 := by omega
      obtain ⟨x, hx⟩ := r.at_ hlt
      obtain ⟨y, hy⟩ := s.at_ hlt
      have hcx := HJ.out.2.2.1.cell hx
      have hcy := HJ.out.2.2.2.cell hy
      have HXY := hid (And.intro hx hy)
      clear hx hy
      go_wp2
      go_quiet (fail)
      go_wp2
      go_roundw
      case rel => exact ⟨k + 1, by omega, by go_num, by rw [upto_succ, chg1_none, one_none, List.append_nil]; exact HJ.out.drewN _⟩
      case measure => simp [intOf]; omega
    · obtain rfl : k = 4 := by omega
      go_wp2
      go_ret
      exact ⟨_, rfl, HJ.out.1.rows, HJ.out.2.1⟩
theorem refchanges (w : World) (r s : Ro) (had has : Bool) : Calls Try.prog 17 #[rowv r, .bool had, rowv s, .bool has] w (RChgd w (upto (opt r had) (opt s has) 4)) := by
  cases had <;> cases has
  · exact ref_ff w r s
  · exact ref_ft w r s
  · exact ref_tf w r s
  · exact ref_tt w r s
end Go.Proofs.Ytcnhklmfahbaoaa
