import Derived.Test.YtomkfggilehhgaaT8
namespace Go.Proofs.Ytomkfggilehhgaa
open Go.RowKit

theorem a_str : (⟨#[97]⟩ : ByteArray) = str [97] := by apply ba_ext; rw [str_list]; rfl
theorem wake1 : str (wv 1 ++ [97]) = ⟨#[128, 0, 0, 0, 0, 0, 0, 1, 97]⟩ := by
  rw [show wv 1 ++ [97] = [128, 0, 0, 0, 0, 0, 0, 1, 97] by decide +kernel]; apply ba_ext; rw [str_list]; rfl
theorem wake2 : str (wv (-1)) = ⟨#[127, 255, 255, 255, 255, 255, 255, 255]⟩ := by
  rw [show wv (-1) = [127, 255, 255, 255, 255, 255, 255, 255] by decide +kernel]; apply ba_ext; rw [str_list]; rfl
theorem wake3 : str (wv (0 + 1)) = ⟨#[128, 0, 0, 0, 0, 0, 0, 1]⟩ := by
  rw [show wv (0 + 1) = [128, 0, 0, 0, 0, 0, 0, 1] by decide +kernel]; apply ba_ext; rw [str_list]; rfl

set_option maxRecDepth 100000 in
theorem awake_any (w : World) : Calls Try.prog 9 #[] w (Yes w) := by
  have HA := hid a_str
  go_enter Try.func9, Try.ntmps9
  go_wp2_with fail
  rw [HA.out]
  refine (put_ok w 1 [97] ⟨by omega, by omega⟩ rfl).mono ?_
  rw [wake1]
  rintro e w1 ⟨rfl, hb1⟩
  go_wp2_with fail
  refine (bounds_two w1 (-1) 0 ⟨by omega, by omega⟩ ⟨by omega, by omega⟩ (by omega) (by omega)).mono ?_
  rw [wake2, wake3]
  rintro e w2 ⟨rfl, hb2⟩
  go_wp2
  go_ret
  exact ⟨rfl, below_step hb1 hb2⟩
end Go.Proofs.Ytomkfggilehhgaa
