import Derived.Test.YtmakcfnmdohedaaDoorRows
import Derived.Test.YtmakcfnmdohedaaDoorM1
import Derived.Test.YtmakcfnmdohedaaDoorB1
namespace Go.Proofs.YtmakcfnmdohedaaDoor
open Go.RowKit

/-- The table's cells. -/
def Tab (w : World) : Prop := ∀ i, i < 16 → w.cell? ⟨0, i, none⟩ = some (.int .u32 (Crc.tab.getD i 0 : Nat))

theorem and_15 (X : Nat) (h : X < 4294967296) : bits .and .u32 (X : Int) 15 = ((X % 16 : Nat) : Int) := by
  have := u32_and_nat X 15 h (by omega)
  rw [show ((15 : Nat) : Int) = 15 from rfl] at this
  rw [this, show (15 : Nat) = 2 ^ 4 - 1 from rfl, Nat.and_two_pow_sub_one_eq_mod]
theorem xor_nib (X : Nat) (h : X < 4294967296) : bits .xor .u32 ((X : Int) / 16) ((Crc.tab.getD (X % 16) 0 : Nat) : Int) = ((Crc.nib X : Nat) : Int) := by
  have := u32_xor_nat (X / 16) (Crc.tab.getD (X % 16) 0) (by omega) (Crc.tab_lt' _)
  unfold Crc.nib
  rw [← this]; simp

set_option maxHeartbeats 400000 in
theorem turn_any (w : World) (r : Nat) (hr : r < 4294967296) (v : Value) (xs : List Nat) (hs : Sl .u8 w v xs) (hb : Crc.Byt xs) (ht : Tab w) :
    Calls Tryd.prog 21 #[.int .u32 r, v] w fun e w' => e = .returned (.int .u32 (Crc.run r xs : Nat)) ∧ w = w' := by
  obtain ⟨A, cap, rfl, hlc, hm, _, hc⟩ := hs
  obtain ⟨len, HL⟩ : ∃ len, Hid (len = xs.length) := ⟨_, rfl⟩
  rw [← HL.out] at hlc ⊢
  unfold maxLen at hm
  have hm' : len ≤ 9223372036854775807 := by omega
  go_enter Tryd.func21, Tryd.ntmps21
  go_wp2
  go_step3
  go_wp2
  go_step3
  go_wp2
  go_loop [0, 6, 7, 10] (fun r' _ _ i => ∃ (k : Nat), k ≤ len ∧ i = .int .i64 k ∧ r' = .int .u32 (Crc.run r (xs.take k) : Nat)) (fun _ _ _ i => len - (intOf i).toNat)
  case atStart => exact ⟨0, by omega, rfl, rfl⟩
  case round =>
    obtain ⟨k, hk, rfl, rfl⟩ := hrel
    by_cases hlt : k < len
    · obtain ⟨b, hx⟩ : ∃ b, xs[k]? = some b := ⟨xs[k]'(by have := HL.out; omega), List.getElem?_eq_getElem _⟩
      obtain ⟨ad, rfl, hcell⟩ := hc k b hx
      have hb' : b < 256 := hb b (List.mem_of_getElem? hx)
      have hR : Crc.run r (xs.take k) < 4294967296 := Crc.run_lt hr (fun x hx => hb x (List.mem_of_mem_take hx))
      have HS : Hid (Crc.run r (xs.take (k + 1)) = Crc.byt (Crc.run r (xs.take k)) b) := by
        rw [List.take_add_one, hx]; simp [Crc.run_append, Crc.run_cons, Crc.run_nil, Hid]
      obtain ⟨R, HR⟩ : ∃ R, Hid (R = Crc.run r (xs.take k)) := ⟨_, rfl⟩
      rw [← HR.out] at HS hR ⊢
      obtain ⟨X0, HX0⟩ : ∃ X, Hid (X = R ^^^ b) := ⟨_, rfl⟩
      have x0 : X0 < 4294967296 := by rw [HX0.out]; exact Crc.xor_lt hR (by omega)
      have x1 : Crc.nib X0 < 4294967296 := Crc.nib_lt x0
      have e0 : bits .xor .u32 (R : Int) (b : Int) = (X0 : Int) := by rw [HX0.out]; exact u32_xor_nat R b hR (by omega)
      have ew : ((b : Int) % 4294967296) = (b : Int) := by omega
      have e1 := and_15 X0 x0
      have e2 := xor_nib X0 x0
      have c0 := ht (X0 % 16) (by omega)
      obtain ⟨X1, HX1⟩ : ∃ X, Hid (X = Crc.nib X0) := ⟨_, rfl⟩
      rw [← HX1.out] at e2 x1
      have e3 := and_15 X1 x1
      have e4 := xor_nib X1 x1
      have c1 := ht (X1 % 16) (by omega)
      obtain ⟨X2, HX2⟩ : ∃ X, Hid (X = Crc.nib X1) := ⟨_, rfl⟩
      rw [← HX2.out] at e4
      generalize Crc.tab.getD (X0 % 16) 0 = T0 at e2 c0
      generalize Crc.tab.getD (X1 % 16) 0 = T1 at e4 c1
      have HB : Hid (Crc.byt R b = X2) := by rw [HX2.out, HX1.out, HX0.out]; rfl
      clear hc hb ht hx hm hlc
      go_wp2
      refine wp_loop_rounds 3 ?_
      rw [rounds_succ]
      go_wp2
      rw [rounds_succ]
      go_wp2
      rw [rounds_succ]
      go_wp2
      go_round
      case rel => exact ⟨k + 1, by omega, by go_num, by rw [HS.out, HB.out]⟩
      case measure => simp [intOf]; omega
    · go_wp2
      go_ret
      have : k = len := by omega
      exact ⟨ret_nat (by rw [List.take_of_length_le (by have := HL.out; omega)]), rfl⟩

theorem not_u32 (x : Nat) (h : x < 4294967296) : bits .xor .u32 IntKind.u32.max (x : Int) = ((Crc.fin x : Nat) : Int) := by
  rw [show IntKind.u32.max = ((4294967295 : Nat) : Int) by decide, u32_xor_nat _ _ (by omega) h]; rfl

theorem next_any (w : World) (r : Nat) (hr : r < 4294967296) (v : Value) (xs : List Nat) (hs : Sl .u8 w v xs) (hb : Crc.Byt xs) (ht : Tab w) :
    Calls Tryd.prog 18 #[.int .u32 r, v] w fun e w' => e = .returned (.int .i64 (Crc.sum r xs : Nat)) ∧ w = w' := by
  have hF := Crc.fin_lt hr
  have hT := Crc.run_lt hF hb
  have h1 := not_u32 r hr
  have h2 := not_u32 _ hT
  have h3 := Crc.fin_lt hT
  have HE : Hid (Crc.sum r xs = Crc.fin (Crc.run (Crc.fin r) xs)) := rfl
  obtain ⟨F, HF⟩ : ∃ F, Hid (F = Crc.fin r) := ⟨_, rfl⟩
  rw [← HF.out] at hF hT h1 h2 h3 HE
  obtain ⟨T, HT⟩ : ∃ T, Hid (T = Crc.run F xs) := ⟨_, rfl⟩
  rw [← HT.out] at h2 h3 hT HE
  generalize Crc.fin T = Y at h2 h3 HE
  go_enter Tryd.func18, Tryd.ntmps18
  go_wp2_with fail
  refine (turn_any w F hF v xs hs hb ht).mono ?_
  rw [← HT.out]
  rintro e w' ⟨rfl, rfl⟩
  go_wp2
  go_ret
  exact ⟨ret_nat HE.out.symm, rfl⟩

theorem sum_any (w : World) (v : Value) (xs : List Nat) (hs : Sl .u8 w v xs) (hb : Crc.Byt xs) (ht : Tab w) :
    Calls Tryd.prog 11 #[v] w fun e w' => e = .returned (.int .i64 (Crc.sum 0 xs : Nat)) ∧ w = w' := by
  go_enter Tryd.func11, Tryd.ntmps11
  go_wp2_with fail
  refine (next_any w 0 (by omega) v xs hs hb ht).mono ?_
  rintro e w' ⟨rfl, rfl⟩
  go_wp2
  go_ret
  exact ⟨rfl, rfl⟩

theorem more_bad (w : World) (n : Int) (v : Value) (h : n < 0 ∨ 4294967295 < n) :
    Calls Tryd.prog 13 #[.int .i64 n, v] w fun e w' => e = .returned (.tuple #[.int .i64 0, .int .i64 10]) ∧ w = w' := by
  rcases h with h | h
  · go_enter Tryd.func13, Tryd.ntmps13
    go_wp2
    go_ret2
    exact ⟨rfl, rfl⟩
  · have h' : ¬ n < 0 := by omega
    go_enter Tryd.func13, Tryd.ntmps13
    go_wp2
    go_ret2
    exact ⟨rfl, rfl⟩

theorem more_any (w : World) (n : Nat) (hn : n < 4294967296) (v : Value) (xs : List Nat) (hs : Sl .u8 w v xs) (hb : Crc.Byt xs) (ht : Tab w) :
    Calls Tryd.prog 13 #[.int .i64 n, v] w fun e w' => e = .returned (.tuple #[.int .i64 (Crc.sum n xs : Nat), .int .i64 0]) ∧ w = w' := by
  have hw : (n : Int) % 4294967296 = n := by omega
  go_enter Tryd.func13, Tryd.ntmps13
  go_wp2_with fail
  refine (next_any w n hn v xs hs hb ht).mono ?_
  rintro e w' ⟨rfl, rfl⟩
  go_wp2
  go_ret2
  exact ⟨rfl, rfl⟩
end Go.Proofs.YtmakcfnmdohedaaDoor
