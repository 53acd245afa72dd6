import Derived.Test.YtmakcfnmdohedaaDoorT2
namespace Go.Proofs.YtmakcfnmdohedaaDoor
open Go.RowKit

def bitn : Nat → Nat → Nat
  | 0, R => R
  | n + 1, R => Crc.bit (bitn n R)
theorem bitn_lt {R : Nat} (h : R < 4294967296) : ∀ n, bitn n R < 4294967296
  | 0 => h
  | n + 1 => Crc.bit_lt (bitn_lt h n)
theorem bit_odd {X : Nat} (h : X % 2 = 1) : Crc.bit X = X / 2 ^^^ 3988292384 := by unfold Crc.bit Crc.poly; rw [if_pos h]
theorem bit_even {X : Nat} (h : ¬ X % 2 = 1) : Crc.bit X = X / 2 := by unfold Crc.bit; rw [if_neg h]; simp

set_option maxHeartbeats 400000 in
theorem refsum_any (w : World) (n : Nat) (hn : n < 4294967296) (v : Value) (xs : List Nat) (hs : Sl .u8 w v xs) (hb : Crc.Byt xs) :
    Calls Tryd.prog 12 #[.int .i64 n, v] w fun e w' => e = .returned (.int .i64 (Crc.sum n xs : Nat)) ∧ w = w' := by
  obtain ⟨A, cap, rfl, hlc, hm, _, hc⟩ := hs
  obtain ⟨len, HL⟩ : ∃ len, Hid (len = xs.length) := ⟨_, rfl⟩
  rw [← HL.out] at hlc ⊢
  unfold maxLen at hm
  have hm' : len ≤ 9223372036854775807 := by omega
  have hF := Crc.fin_lt hn
  have hF' := Crc.fin_sub hn
  obtain ⟨F, HF⟩ : ∃ F, Hid (F = Crc.fin n) := ⟨_, rfl⟩
  rw [← HF.out] at hF hF'
  have hF2 : 4294967295 - (n : Int) = (F : Int) := by omega
  clear hF'
  go_enter Tryd.func12, Tryd.ntmps12
  go_wp2
  go_loop [5, 6, 7, 8] (fun r i _ _ => ∃ k R : Nat, k ≤ len ∧ i = .int .i64 k ∧ r = .int .i64 R ∧ R < 4294967296 ∧ Hid (R = Crc.run F (xs.take k))) (fun _ i _ _ => len - (intOf i).toNat)
  case atStart => exact ⟨0, F, by omega, rfl, rfl, hF, rfl⟩
  case round =>
    obtain ⟨k, R, hk, rfl, rfl, hR, HR⟩ := hrel
    by_cases hlt : k < len
    · obtain ⟨b, hx⟩ : ∃ b, xs[k]? = some b := ⟨xs[k]'(by have := HL.out; omega), List.getElem?_eq_getElem _⟩
      obtain ⟨ad, rfl, hcell⟩ := hc k b hx
      have hb' : b < 256 := hb b (List.mem_of_getElem? hx)
      have HS : Hid (Crc.run F (xs.take (k + 1)) = Crc.byt (Crc.run F (xs.take k)) b) := by
        rw [List.take_add_one, hx]; simp [Crc.run_append, Crc.run_cons, Crc.run_nil, Hid]
      clear hc hb hx hm hlc
      have hY : R ^^^ b < 4294967296 := Crc.xor_lt hR (by omega)
      go_wp2_with fail
      refine (refxor_any w R b hR (by omega)).mono ?_
      rintro e w' ⟨rfl, rfl⟩
      obtain ⟨Y, HY⟩ : ∃ Y, Hid (Y = R ^^^ b) := ⟨_, rfl⟩
      rw [← HY.out] at hY ⊢
      go_wp2
      go_loop [5, 7, 8] (fun r i _ => ∃ j R' : Nat, j ≤ 8 ∧ i = .int .i64 j ∧ r = .int .i64 R' ∧ R' < 4294967296 ∧ Hid (R' = bitn j Y)) (fun _ i _ => 8 - (intOf i).toNat)
      case atStart => exact ⟨0, Y, by omega, rfl, rfl, hY, rfl⟩
      case round =>
        obtain ⟨j, R', hj, rfl, rfl, hR', HR'⟩ := hrel
        by_cases hj8 : j < 8
        · by_cases h2 : R' % 2 = 1
          · have HB := hid (bit_odd h2)
            have hl := Crc.bit_lt hR'
            rw [HB.out] at hl
            go_wp2_with fail
            refine (refxor_any w (R' / 2) 3988292384 (by omega) (by omega)).mono ?_
            rintro e w' ⟨rfl, rfl⟩
            go_wp2
            go_round
            case rel => exact ⟨j + 1, _, by omega, by go_num, rfl, hl, by rw [← HB.out, HR'.out]; rfl⟩
            case measure => simp [intOf]; omega
          · have HB := hid (bit_even h2)
            go_wp2
            go_round
            case rel => exact ⟨j + 1, R' / 2, by omega, by go_num, by go_num, by omega, by rw [← HB.out, HR'.out]; rfl⟩
            case measure => simp [intOf]; omega
        · obtain rfl : j = 8 := by omega
          go_wp2
          go_round
          case rel => exact ⟨k + 1, R', by omega, by go_num, rfl, hR', by rw [HR'.out, HS.out, ← HR.out, Crc.byt_bits, ← HY.out]; rfl⟩
          case measure => simp [intOf]; omega
    · have h4 := Crc.fin_sub hR
      have h5 := Crc.fin_lt hR
      have HE : Hid (Crc.sum n xs = Crc.fin R) := by
        rw [HR.out, List.take_of_length_le (by have := HL.out; omega), HF.out]; rfl
      generalize Crc.fin R = Z at h4 h5 HE
      have h6 : 4294967295 - (R : Int) = (Z : Int) := by omega
      clear h4
      go_wp2
      go_ret
      exact ⟨ret_nat HE.out.symm, rfl⟩
end Go.Proofs.YtmakcfnmdohedaaDoor
