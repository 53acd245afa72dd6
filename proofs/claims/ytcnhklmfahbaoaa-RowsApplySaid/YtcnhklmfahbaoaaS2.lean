/- The reference's Encode; the row of four columns that are read, one behind the other. -/
import Derived.Test.YtcnhklmfahbaoaaS1
namespace Go.Proofs.Ytcnhklmfahbaoaa
open Go.RowKit

def REncRel (W : World) (g : Nat) (r : Ro) (v : Value) (k : Nat) (wr : World) : Prop :=
  Own .u8 wr 0 5 v (enc (r.l.take k)) ∧ Chg [] W wr (ownFoot v) ∧ Lies wr g r

set_option maxRecDepth 100000 in
theorem refencode (w : World) (r : Ro) (hr : r.ok) : Calls Try.prog 11 #[rowv r] w (Fresh w (enc r.l)) := by
  obtain ⟨i0, hi, hz0, hz1, hz2⟩ := info_parts finfo8
  have hst : REncRel w w.heap.size r (.slice none 0 0) 0 (w.alloc (.cells (rowc r) 23)) :=
    ⟨Own.nil _ _ _ _, (Chg.refl [] w).alloc _, Lies.new w r⟩
  have HST := hid hst
  clear hst
  unfold rowv
  go_enter Try.func11, Try.ntmps11
  go_wp2
  go_loopw [3, 4] (fun v i wr => ∃ k : Nat, k ≤ 4 ∧ i = .int .i64 k ∧ REncRel w w.heap.size r v k wr) (fun _ i _ => 4 - (intOf i).toNat)
  case atStart => exact ⟨0, by omega, rfl, HST.out⟩
  case round =>
    obtain ⟨k, hk, rfl, hO, hC, hL⟩ := hrel
    have HO := hid hO
    have HC := hid hC
    have HL := hid hL
    obtain ⟨A, n, c, rfl⟩ := hO.slice
    by_cases hlt : k < 4
    · obtain ⟨x, hx⟩ := r.at_ hlt
      have hcell := hL.cell hx
      have HX := hid hx
      have hI := hr x (List.mem_of_getElem? hx)
      have hle : (enc (r.l.take k)).length ≤ 1000 := by
        have := enc_len (r.l.take k) fun y hy => hr y (List.mem_of_mem_take hy)
        have h4 := List.length_take_le k r.l
        omega
      have hg := gr_len10 (zig_lt hI.1 hI.2)
      have HI := hid hI
      have HLE := hid hle
      have HG := hid hg
      clear hx hL hC hI hle hg hO
      go_wp2_with fail
      refine (refint wr x HI.out.1 HI.out.2).mono ?_
      rintro e w' ⟨u, rfl, hu, hc⟩
      have HU := hid hu
      have HD := hid hc
      have HO' : Hid (Own .u8 w' 0 5 (.slice A n c) (enc (r.l.take k))) := HO.out.below HD.out.nil_below
      have HL' : Hid (Lies w' w.heap.size r) := HL.out.below HD.out.nil_below
      have HC' : Hid (Chg [] w w' (ownFoot (.slice A n c))) := HC.out.step_below HD.out.nil_below
      clear hu hc
      go_wp2_with (at_builtin; refine wpList_append_at _ rfl (.tmp 9) (.tmp 13) 25 rfl 5 i0 (.int .u8 0) 1 Try.underlying25 hi hz0 hz1 hz2 rfl .u8 (.slice A n c) _ rfl HO'.out _ _ rfl HU.out.sl (by unfold maxLen; have := HLE.out; have := HG.out; omega) (by have := HLE.out; have := HG.out; omega) ?_; intro v' w1 hown1 hgrow1 hf1; have HST1 := hid (own_step HC'.out hgrow1 hf1); have HOWN := hid hown1; have HLL := hid (HL'.out.keep (hgrow1.block _ HL'.out.lt (fun e => HO'.out.ne_ HL'.out (by decide) (mem_ownFoot.2 e.symm)))); clear hown1 hgrow1 hf1)
      go_roundw
      case rel => exact ⟨k + 1, by omega, by go_num, by rw [← enc_snoc HX.out]; exact HOWN.out, HST1.out, HLL.out⟩
      case measure => simp [intOf]; omega
    · obtain rfl : k = 4 := by omega
      clear hL hC hO
      go_wp2
      go_ret
      exact ⟨_, rfl, HO.out, HC.out⟩
end Go.Proofs.Ytcnhklmfahbaoaa
