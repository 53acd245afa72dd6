import Derived.Test.YtomkfggilehhgaaT6
namespace Go.Proofs.Ytomkfggilehhgaa
open Go.RowKit

theorem made8 : madeCells (Value.int .u8 0).cells 8 = u8s (part 0 0) := by kernel_rfl
theorem run_make8 (W : World) : (Instr.makeSlice 30 (.int .i64 8) (.int .i64 8)).run Try.prog W = .ok (.slice (some ⟨W.heap.size, 0, none⟩) 8 8) (W.alloc (.cells (u8s (part 0 0)) 5)) := by
  obtain ⟨i0, hi, hz0, hz1, hz2⟩ := info_parts Try.info5
  have h := run_make (P := Try.prog) (w := W) 30 5 i0 (.int .u8 0) Try.underlying30 hi hz0 .i64 .i64 8 8 (by omega) (by omega) (by rw [hz2]; omega) (by omega)
  rw [hz1, show Int.toNat 8 * 1 = 8 by rfl, made8] at h
  exact h

/-- floor, by what Go's '/' and '%' tell. -/
theorem floor_step {q : Int} : (q.tmod 256 < 0 → q.tmod 256 + 256 = q % 256 ∧ q.tdiv 256 - 1 = q / 256) ∧ (¬ q.tmod 256 < 0 → q.tmod 256 = q % 256 ∧ q.tdiv 256 = q / 256) := by
  rcases Int.le_total 0 q with h | h
  · rw [Int.tmod_eq_emod_of_nonneg h, Int.tdiv_eq_ediv_of_nonneg h]
    constructor
    · intro h'; omega
    · intro _; exact ⟨rfl, rfl⟩
  · obtain ⟨p, rfl⟩ : ∃ p : Int, q = -p := ⟨-q, by omega⟩
    rw [Int.neg_tmod, Int.neg_tdiv, Int.tmod_eq_emod_of_nonneg (by omega), Int.tdiv_eq_ediv_of_nonneg (by omega)]
    constructor <;> intro h' <;> constructor <;> omega

set_option maxRecDepth 100000 in
theorem val_bound {U c : Nat} (hc : c < 8) (h1 : 9223372036854775808 ≤ U) (h2 : U < 27670116110564327424) : -9223372036854775808 ≤ ((U / 256 ^ c : Nat) : Int) - 256 ^ (8 - c) ∧ ((U / 256 ^ c : Nat) : Int) - 256 ^ (8 - c) ≤ 9223372036854775807 := by
  obtain rfl | rfl | rfl | rfl | rfl | rfl | rfl | rfl : c = 0 ∨ c = 1 ∨ c = 2 ∨ c = 3 ∨ c = 4 ∨ c = 5 ∨ c = 6 ∨ c = 7 := by omega
  all_goals
    simp
    omega
theorem val_step {U c : Nat} (hc : c < 8) {q : Int} (hq : q = ((U / 256 ^ c : Nat) : Int) - 256 ^ (8 - c)) : ((U / 256 ^ c % 256 : Nat) : Int) = q % 256 ∧ q / 256 = ((U / 256 ^ (c + 1) : Nat) : Int) - 256 ^ (8 - (c + 1)) := by
  rw [show 8 - c = (8 - (c + 1)) + 1 by omega, Int.pow_succ] at hq
  rw [Nat.pow_succ, ← Nat.div_div_eq_div_mul]
  generalize (256 : Int) ^ (8 - (c + 1)) = B at *
  generalize U / 256 ^ c = A at *
  omega
theorem wrap64_of {q : Int} (h1 : -9223372036854775808 ≤ q) (h2 : q ≤ 9223372036854775807) : wrap64 q = q := by
  unfold wrap64; omega

set_option maxRecDepth 100000 in
theorem be_top {U x : Nat} {n : Int} (h1 : -9223372036854775808 ≤ n) (h2 : n ≤ 9223372036854775807) (hU : (U : Int) = n + 18446744073709551616) (hx : x = U / 256 ^ 7 % 256) : (be 8 U).set 0 ((x + 128) % 256) = wv n := by
  have hV : U = lift n + 9223372036854775808 := by unfold lift; omega
  subst hV
  unfold wv
  rw [show be 8 (lift n + 9223372036854775808) = ((lift n + 9223372036854775808) / 256 ^ 7 % 256) :: be 7 (lift n + 9223372036854775808) from rfl, List.set_cons_zero,
    show be 8 (lift n) = (lift n / 256 ^ 7 % 256) :: be 7 (lift n) from rfl, be_mod 7 (lift n + 9223372036854775808) (lift n) (by omega)]
  congr 1
  omega
set_option maxRecDepth 100000 in
theorem value_any (w : World) (n : Int) (hn : I64 n) : Calls Try.prog 13 #[.int .i64 n] w fun e w' => ∃ u, e = .returned u ∧ Sl .u8 w' u (wv n) ∧ Below w.heap.size w w' := by
  have hmk := run_make8
  obtain ⟨hn1, hn2⟩ := hn
  obtain ⟨U, HU⟩ : ∃ U : Nat, Hid ((U : Int) = n + 18446744073709551616) := ⟨(n + 18446744073709551616).toNat, by show _ = _; omega⟩
  go_enter Try.func13, Try.ntmps13
  go_wp2
  go_loopw [0, 4] (fun n' i wr => ∃ c : Nat, c ≤ 8 ∧ i = .int .i64 (7 - (c : Int)) ∧ ∃ q : Int, n' = .int .i64 q ∧ Hid (q = ((U / 256 ^ c : Nat) : Int) - 256 ^ (8 - c)) ∧ wr.heap[w.heap.size]? = some (.cells (u8s (part c U)) 5 (0, 0)) ∧ Below w.heap.size w wr) (fun _ i _ => (intOf i + 1).toNat)
  case atStart =>
    refine ⟨0, by omega, rfl, n, rfl, ?_, heap_alloc_new _ _, (Below.refl _ _).alloc (Nat.le_refl _) _⟩
    have := HU.out
    show _ = _
    simp; omega
  case round =>
    obtain ⟨c, hc, rfl, q, rfl, HQ, hrow, hbel⟩ := hrel
    by_cases hlt : c < 8
    · obtain ⟨j, hj⟩ : ∃ j : Nat, (7 : Int) - c = j := ⟨7 - c, by omega⟩
      obtain ⟨hq1, hq2⟩ : -9223372036854775808 ≤ q ∧ q ≤ 9223372036854775807 := by
        rw [HQ.out]
        exact val_bound hlt (by have := HU.out; omega) (by have := HU.out; omega)
      rw [hj]
      obtain ⟨hf1, hf2⟩ := floor_step (q := q)
      have hjn : j = 7 - c := by omega
      obtain ⟨old, hcell⟩ : ∃ b : Nat, wr.cell? ⟨w.heap.size, j, none⟩ = some (.int .u8 (b : Int)) := by
        rw [cell_of_row wr w.heap.size j _ _ _ hrow]
        have hi : j < (part c U).length := by rw [part_len U hc]; omega
        unfold u8s
        rw [List.getElem?_toArray, List.getElem?_map, List.getElem?_eq_getElem hi]
        exact ⟨_, rfl⟩
      have hfz : wr.frozen? ⟨w.heap.size, j, none⟩ = false := by simp [World.frozen?, hrow]
      have hst := setCell_row hrow (i := j) (.int .u8 ((U / 256 ^ c % 256 : Nat) : Int))
      obtain ⟨hqm, hqd⟩ := val_step hlt HQ.out
      have HQD := hid hqd
      rw [u8s_set, hjn, part_step U hlt, ← hjn, hqm] at hst
      have HST := hid hst
      have HB := hid hbel
      have hj7 : (j : Int) ≤ 7 := by omega
      clear hst hrow hbel hqm hjn hqd
      by_cases hneg : q.tmod 256 < 0
      · obtain ⟨g1, g2⟩ := hf1 hneg
        have hw1 : wrap64 (q.tdiv 256) = q.tdiv 256 := wrap64_of (by omega) (by omega)
        have hw2 : wrap64 (q.tmod 256 + 256) = q % 256 := by rw [g1]; exact wrap64_of (by omega) (by omega)
        have hw3 : wrap64 (q.tdiv 256 - 1) = q / 256 := by rw [g2]; exact wrap64_of (by omega) (by omega)
        clear hf1 hf2 g1 g2
        go_wp2
        go_roundw
        case rel => exact ⟨c + 1, by omega, by go_num, q / 256, by rw [hw3], HQD, HST.out, HB.out.setCell (Nat.le_refl _) _⟩
        case measure => simp [intOf]
      · obtain ⟨g1, g2⟩ := hf2 hneg
        have hneg' : ¬ q % 256 < 0 := by omega
        have hw1 : wrap64 (q.tdiv 256) = q / 256 := by rw [g2]; exact wrap64_of (by omega) (by omega)
        have G2 := hid g2
        clear hf1 hf2 g2
        go_wp2
        go_roundw
        case rel => exact ⟨c + 1, by omega, by go_num, q / 256, by rw [← G2.out], HQD, HST.out, HB.out.setCell (Nat.le_refl _) _⟩
        case measure => simp [intOf]
    · obtain rfl : c = 8 := by omega
      rw [show (7 : Int) - ((8 : Nat) : Int) = -1 by rfl]
      rw [part_all] at hrow
      have hcell : wr.cell? ⟨w.heap.size, 0, none⟩ = some (.int .u8 ((U / 256 ^ 7 % 256 : Nat) : Int)) := by
        have := cell_of_row wr w.heap.size 0 _ _ _ hrow
        rw [this]
        rfl
      obtain ⟨x, HX⟩ : ∃ x : Nat, Hid (x = U / 256 ^ 7 % 256) := ⟨U / 256 ^ 7 % 256, hid (Eq.refl _)⟩
      rw [← HX.out] at hcell
      have hx : x < 256 := by rw [HX.out]; omega
      have hfz : wr.frozen? ⟨w.heap.size, 0, none⟩ = false := by simp [World.frozen?, hrow]
      have HROW := hid hrow
      have HB := hid hbel
      clear hrow hbel
      have hst := setCell_row (i := 0) HROW.out (.int .u8 (((x + 128) % 256 : Nat) : Int))
      rw [u8s_set, be_top hn1 hn2 HU.out HX.out, show (((x + 128) % 256 : Nat) : Int) = ((x : Int) + 128) % 256 by omega] at hst
      have hs := Sl.row (xs := wv n) (c := 8) hst (Nat.le_of_eq (wv_len _)) (by unfold maxLen; omega) (by
        intro i b hi
        unfold u8s
        rw [List.getElem?_toArray, List.getElem?_map, hi]; rfl)
      rw [wv_len] at hs
      have HS := hid hs
      clear hst hs
      go_wp2
      go_ret
      exact ⟨_, rfl, HS.out, HB.out.setCell (Nat.le_refl _) _⟩
end Go.Proofs.Ytomkfggilehhgaa
