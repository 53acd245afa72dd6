import Derived.Test.YtmakcfnmdohedaaDoorT6
import Derived.Lib.SlBytesConst
namespace Go.Proofs.YtmakcfnmdohedaaDoor
open Go.RowKit

theorem Tab.keep {w w' : World} (h : Tab w) (hb : Below w.heap.size w w') : Tab w' := fun i hi => below_keep hb _ _ (h i hi)
def digits : List Nat := [49, 50, 51, 52, 53, 54, 55, 56, 57]
theorem digits_sum : Crc.sum 0 digits = 3421780262 := by decide +kernel
theorem digits_byt : Crc.Byt digits := by intro b hb; simp [digits] at hb; omega
theorem sealed_nil : sealed [] = [0, 0, 0, 0] := by decide +kernel
theorem digits_row {w : World} {e : TypeId} {fz : Nat × Nat} : Sl .u8 (w.alloc (.cells #[.int .u8 49, .int .u8 50, .int .u8 51, .int .u8 52, .int .u8 53, .int .u8 54, .int .u8 55, .int .u8 56, .int .u8 57] e fz)) (.slice (some ⟨w.heap.size, 0, none⟩) 9 9) digits := by
  refine Sl.row (xs := digits) (c := 9) (heap_alloc_new w _) (by simp [digits]) (by simp [maxLen]) ?_
  intro i x hi
  match i with
  | 0 | 1 | 2 | 3 | 4 | 5 | 6 | 7 | 8 => simp [digits] at hi ⊢; omega
  | i + 9 => simp [digits] at hi
theorem zeros_row {w : World} {e : TypeId} : Sl .u8 (w.alloc (.cells #[.int .u8 0, .int .u8 0, .int .u8 0, .int .u8 0] e)) (.slice (some ⟨w.heap.size, 0, none⟩) 4 4) [0, 0, 0, 0] := by
  refine Sl.row (xs := [0, 0, 0, 0]) (c := 4) (heap_alloc_new w _) (by simp) (by simp [maxLen]) ?_
  intro i x hi
  match i with
  | 0 | 1 | 2 | 3 => simp at hi ⊢; omega
  | i + 4 => simp at hi

theorem awake_any (w : World) (ht : Tab w) :
    Calls Tryd.prog 10 #[] w fun e w' => e = .returned (.bool true) ∧ Below w.heap.size w w' := by
  have kc := fun (w : World) (C : Array Value) (n c : Nat) => Lib.run_convert_bytes_const (P := Tryd.prog) w 22 5 C n c Tryd.underlying22 Tryd.underlying5
  go_enter Tryd.func10, Tryd.ntmps10
  go_wp2_with fail
  have hb0 := (Below.refl w.heap.size w).alloc (Nat.le_refl _) (.cells #[.int .u8 49, .int .u8 50, .int .u8 51, .int .u8 52, .int .u8 53, .int .u8 54, .int .u8 55, .int .u8 56, .int .u8 57] 5 (9, 10))
  clear kc
  refine (sum_any _ _ digits digits_row digits_byt (ht.keep hb0)).mono ?_
  rw [digits_sum]
  rintro e w' ⟨rfl, rfl⟩
  go_wp2_with fail
  have HB0 := hid hb0
  clear hb0
  generalize w.alloc (.cells #[.int .u8 49, .int .u8 50, .int .u8 51, .int .u8 52, .int .u8 53, .int .u8 54, .int .u8 55, .int .u8 56, .int .u8 57] 5 (9, 10)) = w1 at HB0 ⊢
  refine (sealed_any w1 _ [] (Sl.nil _ _) (by intro b hb; cases hb) (ht.keep HB0.out) (by simp)).mono ?_
  rintro e w2 ⟨v, rfl, hv, hb2⟩
  rw [sealed_nil] at hv
  have HV := hid hv
  clear hv
  go_wp2_with fail
  refine (bytes_any _ _ _ [0, 0, 0, 0] [0, 0, 0, 0] (HV.out.alloc _) zeros_row).mono ?_
  rintro e w3 ⟨rfl, hb3⟩
  rw [show eqB [0, 0, 0, 0] [0, 0, 0, 0] = true by decide]
  go_wp2
  go_ret
  have h2 := below_step HB0.out hb2
  exact ⟨rfl, below_step (h2.alloc h2.size _) hb3⟩
end Go.Proofs.YtmakcfnmdohedaaDoor
