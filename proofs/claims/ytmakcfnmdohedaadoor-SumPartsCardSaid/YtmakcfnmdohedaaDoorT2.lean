import Derived.Test.YtmakcfnmdohedaaDoorT1
namespace Go.Proofs.YtmakcfnmdohedaaDoor
open Go.RowKit

/-- What holds at the head of the reference's loop: so far o, and P times what is left. -/
structure XorAt (A B p q o P : Nat) : Prop where
  eq : A ^^^ B = o + P * (p ^^^ q)
  o_lt : o < P
  p_le : P * p ≤ A
  q_le : P * q ≤ B
  P_le : P ≤ 8589934592
theorem xor_half (p q : Nat) : p ^^^ q = 2 * (p / 2 ^^^ q / 2) + (if p % 2 = q % 2 then 0 else 1) := by
  have h1 := Nat.xor_div_two (a := p) (b := q)
  have h2 := Nat.xor_mod_two_eq_one (a := p) (b := q)
  rw [← h1]
  split <;> omega
theorem XorAt.step {A B p q o P : Nat} (h : XorAt A B p q o P) (hA : A < 4294967296) (hB : B < 4294967296) (hpq : 0 < p ∨ 0 < q) :
    XorAt A B (p / 2) (q / 2) (if p % 2 = q % 2 then o else o + P) (P * 2) ∧ P ≤ 4294967296 := by
  have hP : P ≤ 4294967296 := by
    rcases hpq with h0 | h0
    · have := Nat.le_mul_of_pos_right P h0
      have := h.p_le; omega
    · have := Nat.le_mul_of_pos_right P h0
      have := h.q_le; omega
  refine ⟨⟨?_, ?_, ?_, ?_, by omega⟩, hP⟩
  · rw [h.eq, xor_half p q]
    split
    · rw [Nat.mul_assoc, Nat.add_zero]
    · rw [Nat.mul_add, Nat.mul_assoc, Nat.mul_one]; omega
  · have := h.o_lt; split <;> omega
  · have := Nat.mul_le_mul_left P (show 2 * (p / 2) ≤ p by omega)
    rw [Nat.mul_assoc]; exact Nat.le_trans this h.p_le
  · have := Nat.mul_le_mul_left P (show 2 * (q / 2) ≤ q by omega)
    rw [Nat.mul_assoc]; exact Nat.le_trans this h.q_le

theorem XorAt.bd {A B p q o P : Nat} (h : XorAt A B p q o P) (hA : A < 4294967296) (hB : B < 4294967296) : p ≤ 4294967295 ∧ q ≤ 4294967295 := by
  have h0 := h.o_lt
  have h1 := Nat.le_mul_of_pos_left p (show 0 < P by omega)
  have h2 := Nat.le_mul_of_pos_left q (show 0 < P by omega)
  have := h.p_le
  have := h.q_le
  omega

theorem refxor_any (w : World) (A B : Nat) (hA : A < 4294967296) (hB : B < 4294967296) :
    Calls Tryd.prog 19 #[.int .i64 A, .int .i64 B] w fun e w' => e = .returned (.int .i64 (A ^^^ B : Nat)) ∧ w = w' := by
  go_enter Tryd.func19, Tryd.ntmps19
  go_wp2
  go_loop [0, 1, 5, 6] (fun a b o p => ∃ P Q O X : Nat, XorAt A B P Q O X ∧ a = .int .i64 P ∧ b = .int .i64 Q ∧ o = .int .i64 O ∧ p = .int .i64 X) (fun a b _ _ => (intOf a).toNat + (intOf b).toNat)
  case atStart => exact ⟨A, B, 0, 1, ⟨by omega, by omega, by omega, by omega, by omega⟩, rfl, rfl, rfl, rfl⟩
  case round =>
    obtain ⟨P, Q, O, X, hx, rfl, rfl, rfl, rfl⟩ := hrel
    have hO := hx.o_lt
    have hX := hx.P_le
    have hbd := hx.bd hA hB
    have hbP := hbd.1
    have hbQ := hbd.2
    clear hbd
    have HX := hid hx
    clear hx
    by_cases hp : 0 < P ∨ 0 < Q
    · have HS := hid (HX.out.step hA hB hp)
      have hX' := HS.out.2
      by_cases h1 : 0 < P
      · by_cases h2 : P % 2 = Q % 2
        · go_wp2
          go_round
          case rel => exact ⟨P / 2, Q / 2, O, X * 2, by simpa [h2] using HS.out.1, by go_num, by go_num, rfl, by go_num⟩
          case measure => simp [intOf]; omega
        · go_wp2
          go_round
          case rel => exact ⟨P / 2, Q / 2, O + X, X * 2, by simpa [h2] using HS.out.1, by go_num, by go_num, by go_num, by go_num⟩
          case measure => simp [intOf]; omega
      · have h3 : 0 < Q := by omega
        by_cases h2 : P % 2 = Q % 2
        · go_wp2
          go_round
          case rel => exact ⟨P / 2, Q / 2, O, X * 2, by simpa [h2] using HS.out.1, by go_num, by go_num, rfl, by go_num⟩
          case measure => simp [intOf]; omega
        · go_wp2
          go_round
          case rel => exact ⟨P / 2, Q / 2, O + X, X * 2, by simpa [h2] using HS.out.1, by go_num, by go_num, by go_num, by go_num⟩
          case measure => simp [intOf]; omega
    · obtain rfl : P = 0 := by omega
      obtain rfl : Q = 0 := by omega
      go_wp2
      go_ret
      have := HX.out.eq
      exact ⟨ret_nat (by rw [this]; simp), rfl⟩
end Go.Proofs.YtmakcfnmdohedaaDoor
