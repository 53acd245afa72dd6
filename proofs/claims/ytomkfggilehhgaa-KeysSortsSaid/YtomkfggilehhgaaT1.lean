import Derived.Test.YtomkfggilehhgaaRows
import Derived.Test.YtomkfggilehhgaaM1
import Derived.Test.YtomkfggilehhgaaB2
import Derived.Laws.Cover1
import Derived.Deep.QuietTactic
import Derived.BigQuiet
namespace Go.Proofs.Ytomkfggilehhgaa
open Go.RowKit

theorem isnan_int (w : World) (x : Int) : Calls Try.prog 26 #[.int .i64 x] w fun e w' => e = .returned (.bool false) ∧ w' = w := by
  go_enter Try.func26, Try.ntmps26
  go_wp2
  go_ret
  exact ⟨rfl, rfl⟩
theorem isnan_str (w : World) (x : ByteArray) : Calls Try.prog 27 #[.string x] w fun e w' => e = .returned (.bool false) ∧ w' = w := by
  go_enter Try.func27, Try.ntmps27
  go_wp2
  go_ret
  exact ⟨rfl, rfl⟩
def cmpI (a b : Int) : Int := if a < b then -1 else if b < a then 1 else 0
theorem cmp_int (w : World) (x y : Int) : Calls Try.prog 23 #[.int .i64 x, .int .i64 y] w fun e w' => e = .returned (.int .i64 (cmpI x y)) ∧ w' = w := by
  unfold cmpI
  go_enter Try.func23, Try.ntmps23
  go_wp2_with fail
  refine (isnan_int _ _).mono ?_
  rintro e w' ⟨rfl, rfl⟩
  go_wp2_with fail
  refine (isnan_int _ _).mono ?_
  rintro e w' ⟨rfl, rfl⟩
  by_cases h : x < y
  · go_wp2
    go_ret
    exact ⟨rfl, rfl⟩
  · by_cases h' : y < x
    · go_wp2
      go_ret
      exact ⟨rfl, rfl⟩
    · go_wp2
      go_ret
      exact ⟨rfl, rfl⟩
theorem cmpL_lt {a b : List Nat} (h : a < b) : cmpL a b = -1 := by unfold cmpL; rw [if_pos h]
theorem cmpL_eq (a : List Nat) : cmpL a a = 0 := by unfold cmpL; rw [if_neg (List.lt_irrefl _), if_pos rfl]
theorem cmpL_gt {a b : List Nat} (h : ¬ a < b) (h' : a ≠ b) : cmpL a b = 1 := by unfold cmpL; rw [if_neg h, if_neg h']
theorem cmp_str (w : World) (xs ys : List Nat) (hx : Byt xs) (hy : Byt ys) : Calls Try.prog 24 #[.string (str xs), .string (str ys)] w fun e w' => e = .returned (.int .i64 (cmpL xs ys)) ∧ w' = w := by
  have h1 := less_str hx hy
  have h2 := beq_str hx hy
  by_cases h : xs < ys
  · rw [cmpL_lt h]
    simp only [h, decide_true] at h1
    go_enter Try.func24, Try.ntmps24
    go_wp2_with fail
    refine (isnan_str _ _).mono ?_
    rintro e w' ⟨rfl, rfl⟩
    go_wp2_with fail
    refine (isnan_str _ _).mono ?_
    rintro e w' ⟨rfl, rfl⟩
    go_wp2
    go_ret
    exact ⟨rfl, rfl⟩
  · simp only [h, decide_false] at h1
    by_cases h' : xs = ys
    · subst h'
      rw [cmpL_eq]
      simp only [decide_true] at h2
      go_enter Try.func24, Try.ntmps24
      go_wp2_with fail
      refine (isnan_str _ _).mono ?_
      rintro e w' ⟨rfl, rfl⟩
      go_wp2_with fail
      refine (isnan_str _ _).mono ?_
      rintro e w' ⟨rfl, rfl⟩
      go_wp2
      go_ret
      exact ⟨rfl, rfl⟩
    · rw [cmpL_gt h h']
      simp only [h', decide_false] at h2
      go_enter Try.func24, Try.ntmps24
      go_wp2_with fail
      refine (isnan_str _ _).mono ?_
      rintro e w' ⟨rfl, rfl⟩
      go_wp2_with fail
      refine (isnan_str _ _).mono ?_
      rintro e w' ⟨rfl, rfl⟩
      go_wp2
      go_ret
      exact ⟨rfl, rfl⟩

/-- Is it a key? -/
def keyB (xs : List Nat) : Bool := decide (1 ≤ xs.length ∧ xs.length ≤ 16)
def checkE (xs : List Nat) : Int := if keyB xs then 0 else 13
theorem str_ne {xs : List Nat} (h : xs ≠ []) : ¬ (str xs).toList = [] ∧ (str xs).toList.isEmpty = false := by
  rw [str_toList]
  cases xs with
  | nil => exact absurd rfl h
  | cons x xs => exact ⟨by simp, rfl⟩
theorem keyB_nil : keyB [] = false := rfl
theorem keyB_yes {xs : List Nat} (h : keyB xs = true) : xs ≠ [] ∧ 1 ≤ xs.length ∧ xs.length ≤ 16 := by
  unfold keyB at h
  rw [decide_eq_true_iff] at h
  exact ⟨by rintro rfl; simp at h, h⟩
theorem keyB_no {xs : List Nat} (h : keyB xs = false) (h' : xs ≠ []) : 16 < xs.length := by
  unfold keyB at h
  rw [decide_eq_false_iff_not] at h
  have : 1 ≤ xs.length := by cases xs with
    | nil => exact absurd rfl h'
    | cons x xs => simp
  omega
theorem check_any (w : World) (xs : List Nat) : Calls Try.prog 11 #[.string (str xs)] w fun e w' => e = .returned (.int .i64 (checkE xs)) ∧ w' = w := by
  by_cases h0 : xs = []
  · subst h0
    rw [← str_nil, show checkE [] = 13 by rfl]
    go_enter Try.func11, Try.ntmps11
    go_wp2
    go_ret
    exact ⟨rfl, rfl⟩
  · obtain ⟨h1, h2⟩ := str_ne h0
    have h3 := str_size xs
    cases hk : keyB xs with
    | true =>
      have hl : (xs.length : Int) ≤ 16 := by have := (keyB_yes hk).2.2; omega
      rw [show checkE xs = 0 by unfold checkE; rw [hk]; rfl]
      clear hk h0
      go_enter Try.func11, Try.ntmps11
      go_wp2
      go_ret
      exact ⟨rfl, rfl⟩
    | false =>
      have hl : (16 : Int) < xs.length := by have := keyB_no hk h0; omega
      rw [show checkE xs = 13 by unfold checkE; rw [hk]; rfl]
      clear hk h0
      go_enter Try.func11, Try.ntmps11
      go_wp2
      go_ret
      exact ⟨rfl, rfl⟩
theorem right_any (w : World) (xs : List Nat) : Calls Try.prog 12 #[.string (str xs)] w fun e w' => e = .returned (.bool (keyB xs)) ∧ w' = w := by
  have h3 := str_size xs
  by_cases h1 : 1 ≤ (xs.length : Int)
  · rw [show keyB xs = decide ((xs.length : Int) ≤ 16) by unfold keyB; rw [decide_eq_decide]; omega]
    go_enter Try.func12, Try.ntmps12
    go_wp2
    go_ret
    exact ⟨rfl, rfl⟩
  · rw [show keyB xs = false by unfold keyB; rw [decide_eq_false_iff_not]; omega]
    go_enter Try.func12, Try.ntmps12
    go_wp2
    go_ret
    exact ⟨rfl, rfl⟩
end Go.Proofs.Ytomkfggilehhgaa
