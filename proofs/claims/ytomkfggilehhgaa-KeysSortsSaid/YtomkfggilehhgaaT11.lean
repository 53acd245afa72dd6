import Derived.Test.YtomkfggilehhgaaT9
namespace Go.Proofs.Ytomkfggilehhgaa
open Go.RowKit

/-- How Get answers. -/
theorem get_no (w : World) (xs : List Nat) (hk : keyB (xs.drop 8) = false) :
    Calls Try.prog 14 #[.string (str xs)] w fun e w' => e = .returned (.tuple #[ent 0 [], .int .i64 11]) ∧ Below w.heap.size w w' := by
  by_cases h : 8 ≤ xs.length
  · exact get_key w xs h hk
  · exact get_short w xs (by omega)

theorem gets_long (w : World) (xs : List Nat) (h : 100 < xs.length) : Calls Try.prog 4 #[.string (str xs)] w (Yes w) := by
  have hl : (100 : Int) < (str xs).size := by rw [str_size]; omega
  go_enter Try.func4, Try.ntmps4
  go_wp2_with fail
  refine (awake_any _).mono ?_
  rintro e w1 ⟨rfl, hb1⟩
  go_wp2
  go_ret
  exact ⟨rfl, hb1⟩
theorem key_len {xs : List Nat} : keyB (xs.drop 8) = decide (9 ≤ xs.length ∧ xs.length ≤ 24) := by
  unfold keyB; rw [List.length_drop, decide_eq_decide]; omega
theorem gets_no (w : World) (xs : List Nat) (hk : keyB (xs.drop 8) = false) (h : xs.length ≤ 100) : Calls Try.prog 4 #[.string (str xs)] w (Yes w) := by
  have hl : (xs.length : Int) ≤ 100 := by omega
  have hs := str_size xs
  have hN := hid str_nil
  have hlen : (xs.length : Int) < 9 ∨ (9 : Int) ≤ xs.length ∧ (24 : Int) < xs.length := by
    rw [key_len, decide_eq_false_iff_not] at hk; omega
  rcases hlen with h1 | ⟨h1, h2⟩
  all_goals
    go_enter Try.func4, Try.ntmps4
    go_wp2_with fail
    refine (get_no w xs hk).mono ?_
    rintro e w1 ⟨rfl, hb1⟩
    unfold ent
    rw [← hN.out]
    go_wp2_with fail
    refine (awake_any _).mono ?_
    rintro e w2 ⟨rfl, hb2⟩
    go_wp2
    go_ret
    exact ⟨rfl, below_step (hb1.alloc hb1.size _) hb2⟩
theorem gets_yes (w : World) (xs : List Nat) (hb : Byt xs) (hk : keyB (xs.drop 8) = true) : Calls Try.prog 4 #[.string (str xs)] w (Yes w) := by
  have hkl := hk
  rw [key_len, decide_eq_true_iff] at hkl
  have hl : (xs.length : Int) ≤ 100 := by omega
  have hl1 : (9 : Int) ≤ xs.length := by omega
  have hl2 : (xs.length : Int) ≤ 24 := by omega
  have hs := str_size xs
  have HL8 : Hid (8 ≤ xs.length) := by show _ ≤ _; omega
  have hcut := fun W => run_tail W xs HL8.out
  clear hkl
  go_enter Try.func4, Try.ntmps4
  go_wp2_with fail
  refine (get_ok w xs hb hk).mono ?_
  rintro e w1 ⟨rfl, hb1⟩
  have HB1 := hid hb1
  obtain ⟨hc0, hc1⟩ := EntAt.new w1 (val xs) (xs.drop 8)
  unfold ent
  clear hb1
  go_wp2_with fail
  go_region_held3 (fun w' => w'.cell? ⟨w1.heap.size, 0, none⟩ = some (.int .i64 (val xs)) ∧ w'.cell? ⟨w1.heap.size, 0 + 1, none⟩ = some (.string (str (xs.drop 8)))) (first | exact ⟨hc0, hc1⟩ | exact HE3.out)
    (first
      | (go_at_call 15; ((with_reducible refine (number_any _ xs hb HL8.out).mono ?_); rintro e w2 ⟨rfl, rfl⟩))
      | (go_at_call 9; ((with_reducible refine (awake_any _).mono ?_); rintro e w3 ⟨rfl, hb3⟩; have HE3 : Hid (EntAt w3 ⟨w1.heap.size, 0, none⟩ (val xs) (xs.drop 8)) := hid (EntAt.below (w := (w1.alloc (.cells #[.int .i64 (val xs), .string (str (xs.drop 8))] 23)).drew) ⟨hc0, hc1⟩ hb3); have HB3 := hid hb3; clear hb3)))
  go_wp2
  go_ret
  exact ⟨rfl, below_step (HB1.out.alloc HB1.out.size _).drew HB3.out⟩
theorem gets_any (w : World) (xs : List Nat) (hb : Byt xs) : Calls Try.prog 4 #[.string (str xs)] w (Yes w) := by
  by_cases h : xs.length ≤ 100
  · cases hk : keyB (xs.drop 8) with
    | true => exact gets_yes w xs hb hk
    | false => exact gets_no w xs hk h
  · exact gets_long w xs (by omega)
end Go.Proofs.Ytomkfggilehhgaa
