import Derived.Test.YtomkfggilehhgaaT5
namespace Go.Proofs.Ytomkfggilehhgaa
open Go.RowKit

def aheadB (a b : Int) : Bool := if a ≠ 0 then decide (a < 0) else decide (b < 0)
theorem ahead_any (w : World) (g cap : Nat) (a b : Int) (h0 : w.cell? ⟨g, 0, none⟩ = some (.int .i64 a)) (h1 : w.cell? ⟨g, 0 + 1, none⟩ = some (.int .i64 b)) :
    Calls Try.prog 22 #[.slice (some ⟨g, 0, none⟩) 2 cap] w fun e w' => e = .returned (.bool (aheadB a b)) ∧ w' = w := by
  go_enter Try.func22, Try.ntmps22
  go_wp2
  go_loop [7] (fun i => ∃ k : Nat, k ≤ 2 ∧ i = .int .i64 k ∧ (1 ≤ k → a = 0) ∧ (2 ≤ k → b = 0)) (fun i => 2 - (intOf i).toNat)
  case atStart => exact ⟨0, by omega, rfl, by omega, by omega⟩
  case round =>
    obtain ⟨k, hk, rfl, ha, hb⟩ := hrel
    obtain rfl | rfl | rfl : k = 0 ∨ k = 1 ∨ k = 2 := by omega
    · by_cases h : a = 0
      · go_wp2
        go_round
        case rel => exact ⟨1, by omega, by go_num, fun _ => h, by omega⟩
        case measure => simp [intOf]
      · go_wp2
        go_ret
        exact ⟨ret_bool (by simp [aheadB, h]), rfl⟩
    · obtain rfl := ha (by omega)
      by_cases h : b = 0
      · go_wp2
        go_round
        case rel => exact ⟨2, by omega, by go_num, by simp, fun _ => h⟩
        case measure => simp [intOf]
      · go_wp2
        go_ret
        exact ⟨ret_bool (by simp [aheadB]), rfl⟩
    · obtain rfl := ha (by omega)
      obtain rfl := hb (by omega)
      go_wp2
      go_ret
      exact ⟨ret_bool (by simp [aheadB]), rfl⟩

theorem compare_same (w : World) (n : Int) (xs : List Nat) : Calls Try.prog 17 #[ent n xs, ent n xs] w fun e w' => e = .returned (.int .i64 0) ∧ Below w.heap.size w w' := by
  unfold ent
  go_enter Try.func17, Try.ntmps17
  go_wp2
  go_ret
  exact ⟨rfl, ((Below.refl _ w).alloc (Nat.le_refl _) _).alloc (by simp) _⟩

theorem toList_ne {xs ys : List Nat} (hx : Byt xs) (hy : Byt ys) (hd : xs ≠ ys) : ¬ (str xs).toList = (str ys).toList := by
  rw [str_toList, str_toList]; exact fun e => hd (ofNat_inj hx hy e)
theorem two_cells (w : World) (a b : Int) : (w.alloc (.cells #[.int .i64 a, .int .i64 b] 3)).cell? ⟨w.heap.size, 0, none⟩ = some (.int .i64 a) ∧ (w.alloc (.cells #[.int .i64 a, .int .i64 b] 3)).cell? ⟨w.heap.size, 0 + 1, none⟩ = some (.int .i64 b) :=
  ⟨cell_of_row _ _ 0 _ _ _ (heap_alloc_new w _), cell_of_row _ _ 1 _ _ _ (heap_alloc_new w _)⟩

theorem compare_two1 (w : World) (n m : Int) (xs ys : List Nat) (hx : Byt xs) (hy : Byt ys) (hE : n ≠ m) (B : Bool) (hA : aheadB (cmpI n m) (cmpL xs ys) = B) :
    Calls Try.prog 17 #[ent n xs, ent m ys] w fun e w' => e = .returned (.int .i64 (if B = true then -1 else 1)) ∧ Below w.heap.size w w' := by
  obtain ⟨hc0, hc1⟩ := (EntAt.new w n xs).below ((Below.refl _ (w.alloc (.cells #[.int .i64 n, .string (str xs)] 23))).alloc (Nat.le_refl _) (.cells #[.int .i64 m, .string (str ys)] 23))
  obtain ⟨hc2, hc3⟩ := EntAt.new (w.alloc (.cells #[.int .i64 n, .string (str xs)] 23)) m ys
  have hsz : (w.alloc (.cells #[.int .i64 n, .string (str xs)] 23)).heap.size = w.heap.size + 1 := by simp
  rw [hsz] at hc2 hc3
  have hk : Hid (∀ a u, (((w.alloc (.cells #[.int .i64 n, .string (str xs)] 23)).alloc (.cells #[.int .i64 m, .string (str ys)] 23))).cell? a = some u → ((((w.alloc (.cells #[.int .i64 n, .string (str xs)] 23)).alloc (.cells #[.int .i64 m, .string (str ys)] 23))).alloc (.cells #[.int .i64 (cmpI n m), .int .i64 (cmpL xs ys)] 3)).drew.cell? a = some u) := below_keep ((Below.refl _ _).alloc (Nat.le_refl _) _).drew
  obtain ⟨hq0, hq1⟩ : ((((w.alloc (.cells #[.int .i64 n, .string (str xs)] 23)).alloc (.cells #[.int .i64 m, .string (str ys)] 23))).alloc (.cells #[.int .i64 (cmpI n m), .int .i64 (cmpL xs ys)] 3)).drew.cell? ⟨w.heap.size + 1 + 1, 0, none⟩ = some (.int .i64 (cmpI n m)) ∧ ((((w.alloc (.cells #[.int .i64 n, .string (str xs)] 23)).alloc (.cells #[.int .i64 m, .string (str ys)] 23))).alloc (.cells #[.int .i64 (cmpI n m), .int .i64 (cmpL xs ys)] 3)).drew.cell? ⟨w.heap.size + 1 + 1, 0 + 1, none⟩ = some (.int .i64 (cmpL xs ys)) := by
    have h := two_cells (((w.alloc (.cells #[.int .i64 n, .string (str xs)] 23)).alloc (.cells #[.int .i64 m, .string (str ys)] 23))) (cmpI n m) (cmpL xs ys)
    rw [show (((w.alloc (.cells #[.int .i64 n, .string (str xs)] 23)).alloc (.cells #[.int .i64 m, .string (str ys)] 23))).heap.size = w.heap.size + 1 + 1 by simp] at h
    exact h
  have HQ0 := hid hq0
  have HQ1 := hid hq1
  have HB : Hid (Below w.heap.size w ((((w.alloc (.cells #[.int .i64 n, .string (str xs)] 23)).alloc (.cells #[.int .i64 m, .string (str ys)] 23))).alloc (.cells #[.int .i64 (cmpI n m), .int .i64 (cmpL xs ys)] 3)).drew) := ((((Below.refl _ w).alloc (Nat.le_refl _) _).alloc (by simp) _).alloc (by simp; omega) _).drew
  clear hq0 hq1
  cases B
  all_goals
    unfold ent
    go_enter Try.func17, Try.ntmps17
    go_wp2_with fail
    go_region_held3 (fun w' => w'.cell? ⟨w.heap.size, 0, none⟩ = some (.int .i64 n) ∧ w'.cell? ⟨w.heap.size, 0 + 1, none⟩ = some (.string (str xs)) ∧ w'.cell? ⟨w.heap.size + 1, 0, none⟩ = some (.int .i64 m) ∧ w'.cell? ⟨w.heap.size + 1, 0 + 1, none⟩ = some (.string (str ys))) (first | exact ⟨hc0, hc1, hc2, hc3⟩ | exact ⟨hk.out _ _ hc0, hk.out _ _ hc1, hk.out _ _ hc2, hk.out _ _ hc3⟩)
      (first
        | (go_at_call 23; ((with_reducible refine (cmp_int _ _ _).mono ?_); rintro e w1 ⟨rfl, rfl⟩))
        | (go_at_call 24; ((with_reducible refine (cmp_str _ xs ys hx hy).mono ?_); rintro e w2 ⟨rfl, rfl⟩))
        | (go_at_call 22; ((with_reducible refine (ahead_any _ _ _ _ _ HQ0.out HQ1.out).mono ?_); rw [hA]; rintro e w3 ⟨rfl, rfl⟩)))
    all_goals
      go_wp2
      go_ret
      exact ⟨rfl, HB.out⟩
theorem compare_two2 (w : World) (n : Int) (xs ys : List Nat) (hx : Byt xs) (hy : Byt ys) (hd : xs ≠ ys) (B : Bool) (hA : aheadB (cmpI n n) (cmpL xs ys) = B) :
    Calls Try.prog 17 #[ent n xs, ent n ys] w fun e w' => e = .returned (.int .i64 (if B = true then -1 else 1)) ∧ Below w.heap.size w w' := by
  obtain ⟨hc0, hc1⟩ := (EntAt.new w n xs).below ((Below.refl _ (w.alloc (.cells #[.int .i64 n, .string (str xs)] 23))).alloc (Nat.le_refl _) (.cells #[.int .i64 n, .string (str ys)] 23))
  obtain ⟨hc2, hc3⟩ := EntAt.new (w.alloc (.cells #[.int .i64 n, .string (str xs)] 23)) n ys
  have hsz : (w.alloc (.cells #[.int .i64 n, .string (str xs)] 23)).heap.size = w.heap.size + 1 := by simp
  rw [hsz] at hc2 hc3
  have hk : Hid (∀ a u, (((w.alloc (.cells #[.int .i64 n, .string (str xs)] 23)).alloc (.cells #[.int .i64 n, .string (str ys)] 23))).cell? a = some u → ((((w.alloc (.cells #[.int .i64 n, .string (str xs)] 23)).alloc (.cells #[.int .i64 n, .string (str ys)] 23))).alloc (.cells #[.int .i64 (cmpI n n), .int .i64 (cmpL xs ys)] 3)).drew.cell? a = some u) := below_keep ((Below.refl _ _).alloc (Nat.le_refl _) _).drew
  obtain ⟨hq0, hq1⟩ : ((((w.alloc (.cells #[.int .i64 n, .string (str xs)] 23)).alloc (.cells #[.int .i64 n, .string (str ys)] 23))).alloc (.cells #[.int .i64 (cmpI n n), .int .i64 (cmpL xs ys)] 3)).drew.cell? ⟨w.heap.size + 1 + 1, 0, none⟩ = some (.int .i64 (cmpI n n)) ∧ ((((w.alloc (.cells #[.int .i64 n, .string (str xs)] 23)).alloc (.cells #[.int .i64 n, .string (str ys)] 23))).alloc (.cells #[.int .i64 (cmpI n n), .int .i64 (cmpL xs ys)] 3)).drew.cell? ⟨w.heap.size + 1 + 1, 0 + 1, none⟩ = some (.int .i64 (cmpL xs ys)) := by
    have h := two_cells (((w.alloc (.cells #[.int .i64 n, .string (str xs)] 23)).alloc (.cells #[.int .i64 n, .string (str ys)] 23))) (cmpI n n) (cmpL xs ys)
    rw [show (((w.alloc (.cells #[.int .i64 n, .string (str xs)] 23)).alloc (.cells #[.int .i64 n, .string (str ys)] 23))).heap.size = w.heap.size + 1 + 1 by simp] at h
    exact h
  have HQ0 := hid hq0
  have HQ1 := hid hq1
  have HB : Hid (Below w.heap.size w ((((w.alloc (.cells #[.int .i64 n, .string (str xs)] 23)).alloc (.cells #[.int .i64 n, .string (str ys)] 23))).alloc (.cells #[.int .i64 (cmpI n n), .int .i64 (cmpL xs ys)] 3)).drew) := ((((Below.refl _ w).alloc (Nat.le_refl _) _).alloc (by simp) _).alloc (by simp; omega) _).drew
  clear hq0 hq1
  have hE := toList_ne hx hy hd
  clear hd
  cases B
  all_goals
    unfold ent
    go_enter Try.func17, Try.ntmps17
    go_wp2_with fail
    go_region_held3 (fun w' => w'.cell? ⟨w.heap.size, 0, none⟩ = some (.int .i64 n) ∧ w'.cell? ⟨w.heap.size, 0 + 1, none⟩ = some (.string (str xs)) ∧ w'.cell? ⟨w.heap.size + 1, 0, none⟩ = some (.int .i64 n) ∧ w'.cell? ⟨w.heap.size + 1, 0 + 1, none⟩ = some (.string (str ys))) (first | exact ⟨hc0, hc1, hc2, hc3⟩ | exact ⟨hk.out _ _ hc0, hk.out _ _ hc1, hk.out _ _ hc2, hk.out _ _ hc3⟩)
      (first
        | (go_at_call 23; ((with_reducible refine (cmp_int _ _ _).mono ?_); rintro e w1 ⟨rfl, rfl⟩))
        | (go_at_call 24; ((with_reducible refine (cmp_str _ xs ys hx hy).mono ?_); rintro e w2 ⟨rfl, rfl⟩))
        | (go_at_call 22; ((with_reducible refine (ahead_any _ _ _ _ _ HQ0.out HQ1.out).mono ?_); rw [hA]; rintro e w3 ⟨rfl, rfl⟩)))
    all_goals
      go_wp2
      go_ret
      exact ⟨rfl, HB.out⟩

theorem cmpL_cases (a b : List Nat) : (a < b ∧ cmpL a b = -1) ∨ (a = b ∧ cmpL a b = 0) ∨ (b < a ∧ ¬ a < b ∧ a ≠ b ∧ cmpL a b = 1) := by
  by_cases h : a < b
  · exact .inl ⟨h, cmpL_lt h⟩
  · by_cases h' : a = b
    · subst h'; exact .inr (.inl ⟨rfl, cmpL_eq a⟩)
    · refine .inr (.inr ⟨?_, h, h', cmpL_gt h h'⟩)
      rcases Std.lt_trichotomy a b with h1 | h1 | h1
      · exact absurd h1 h
      · exact absurd h1 h'
      · exact h1
theorem compare_any (w : World) (n m : Int) (xs ys : List Nat) (hx : Byt xs) (hy : Byt ys) :
    Calls Try.prog 17 #[ent n xs, ent m ys] w fun e w' => e = .returned (.int .i64 (cmpE n xs m ys)) ∧ Below w.heap.size w w' := by
  by_cases h : n = m
  · subst h
    by_cases h' : xs = ys
    · subst h'
      rw [show cmpE n xs n xs = 0 by unfold cmpE; rw [if_neg (by omega), if_neg (by omega), cmpL_eq]]
      exact compare_same w n xs
    · have hc := compare_two2 w n xs ys hx hy h' _ rfl
      rw [show (if aheadB (cmpI n n) (cmpL xs ys) = true then (-1 : Int) else 1) = cmpE n xs n ys by
        rw [show cmpI n n = 0 by unfold cmpI; rw [if_neg (by omega), if_neg (by omega)]]
        unfold cmpE
        rw [if_neg (Int.lt_irrefl n), if_neg (Int.lt_irrefl n)]
        rcases cmpL_cases xs ys with ⟨_, e⟩ | ⟨e, _⟩ | ⟨_, _, _, e⟩
        · rw [e]; rfl
        · exact absurd e h'
        · rw [e]; rfl] at hc
      exact hc
  · have hc := compare_two1 w n m xs ys hx hy h _ rfl
    rw [show (if aheadB (cmpI n m) (cmpL xs ys) = true then (-1 : Int) else 1) = cmpE n xs m ys by
      unfold cmpE cmpI
      by_cases h1 : n < m
      · rw [if_pos h1, if_pos h1]; rfl
      · have h2 : m < n := by omega
        rw [if_neg h1, if_neg h1, if_pos h2, if_pos h2]; rfl] at hc
    exact hc
end Go.Proofs.Ytomkfggilehhgaa
