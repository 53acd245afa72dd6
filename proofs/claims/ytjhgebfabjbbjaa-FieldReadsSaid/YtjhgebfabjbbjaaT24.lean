import Derived.Test.YtjhgebfabjbbjaaT23
import Derived.Deep.RegionHeld3
namespace Go.Proofs.Ytjhgebfabjbbjaa
open Go.RowKit

theorem elem26 : Try.prog.elem 26 = 5 := by kernel_rfl
theorem run_size5 (W : World) : (sizeOf 5).run Try.prog W = .ok 1 W := by kernel_rfl
/-- What is cut off from a to h, whatever the capacity. -/
theorem cut_sl {w : World} {A : Option Addr} {len cap : Nat} {xs : List Nat} (hs : Sl .u8 w (.slice A len cap) xs) {a h : Nat} (ha : a ≤ h) (hh : h ≤ len) :
    Sl .u8 w (sliced A a h cap 1) ((xs.drop a).take (h - a)) := by
  have hl := hs.len
  obtain ⟨A', c', hv, hc, hm, hn, hx⟩ := hs
  injection hv with e1 e2 e3
  subst e1; subst e3
  unfold sliced
  have hlen : ((xs.drop a).take (h - a)).length = h - a := by rw [List.length_take, List.length_drop]; omega
  refine ⟨_, cap - a, by rw [hlen], by rw [hlen]; omega, by omega, fun hA => ?_, fun i b hi => ?_⟩
  · split at hA
    · omega
    · cases A with
      | none => have := hn rfl; omega
      | some ad => cases hA
  · rw [List.getElem?_take] at hi
    split at hi
    · rw [List.getElem?_drop] at hi
      obtain ⟨ad, hA, hcell⟩ := hx _ _ hi
      have hil : a + i < xs.length := (List.getElem?_eq_some_iff.1 hi).1
      rw [if_neg (by omega), hA]
      exact ⟨_, rfl, by rw [Nat.mul_one, add_add']; exact hcell⟩
    · cases hi
theorem run_cut_from (W : World) (A : Option Addr) (len cap a : Nat) (ha : a ≤ len) :
    (Instr.slice 26 (.slice A len cap) (some (.int .i64 (a : Int))) none none).run Try.prog W = .ok (sliced A a len cap 1) W := by
  have h := run_slice_l (P := Try.prog) (w := W) 26 A len cap (by rw [elem26]; exact Try.underlying26) .i64 (a : Int) (by omega) (by omega)
  rw [elem26, run_size5] at h
  simpa [Result.andThen] using h
end Go.Proofs.Ytjhgebfabjbbjaa
