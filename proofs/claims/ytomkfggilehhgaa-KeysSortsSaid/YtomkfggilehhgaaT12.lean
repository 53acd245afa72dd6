import Derived.Test.YtomkfggilehhgaaT11
namespace Go.Proofs.Ytomkfggilehhgaa
open Go.RowKit

theorem cmpE_cases (n m : Int) (xs ys : List Nat) (hn : I64 n) (hm : I64 m) :
    (cmpE n xs m ys = -1 ∧ (wv n ++ xs < wv m ++ ys) ∧ wv n ++ xs ≠ wv m ++ ys) ∨ (cmpE n xs m ys = 0 ∧ n = m ∧ xs = ys) ∨ (cmpE n xs m ys = 1 ∧ ¬ (wv n ++ xs < wv m ++ ys) ∧ wv n ++ xs ≠ wv m ++ ys) := by
  rw [wv_lt hn hm, Ne, wv_inj hn hm]
  unfold cmpE
  by_cases h1 : n < m
  · rw [if_pos h1]
    exact .inl ⟨rfl, .inl h1, fun h => by omega⟩
  · rw [if_neg h1]
    by_cases h2 : m < n
    · rw [if_pos h2]
      exact .inr (.inr ⟨rfl, fun h => by omega, fun h => by omega⟩)
    · rw [if_neg h2]
      have e : n = m := by omega
      subst e
      rcases cmpL_cases xs ys with ⟨h, e⟩ | ⟨h, e⟩ | ⟨_, h, h', e⟩
      · refine .inl ⟨e, .inr ⟨rfl, h⟩, fun h' => ?_⟩
        rw [h'.2] at h
        exact List.lt_irrefl _ h
      · exact .inr (.inl ⟨e, rfl, h⟩)
      · refine .inr (.inr ⟨e, ?_, fun h'' => h' h''.2⟩)
        rintro (h'' | h'')
        · omega
        · exact h h''.2
/-- Two entries that lie in boxes of the call's own. -/
structure Boxes (w0 w : World) (n m : Int) (xs ys : List Nat) : Prop where
  a : EntAt w ⟨w0.heap.size, 0, none⟩ n xs
  b : EntAt w ⟨w0.heap.size + 1, 0, none⟩ m ys
  c : Below w0.heap.size w0 w
theorem Boxes.below {w0 w w' : World} {n m : Int} {xs ys : List Nat} (h : Boxes w0 w n m xs ys) (hb : Below w.heap.size w w') : Boxes w0 w' n m xs ys :=
  ⟨h.a.below hb, h.b.below hb, below_step h.c hb⟩
theorem boxes_new (w : World) (n m : Int) (xs ys : List Nat) : Boxes w ((w.alloc (.cells #[.int .i64 n, .string (str xs)] 23)).alloc (.cells #[.int .i64 m, .string (str ys)] 23)) n m xs ys := by
  have h1 := (EntAt.new w n xs).below ((Below.refl _ _).alloc (Nat.le_refl _) (.cells #[.int .i64 m, .string (str ys)] 23))
  have h2 := EntAt.new (w.alloc (.cells #[.int .i64 n, .string (str xs)] 23)) m ys
  rw [show (w.alloc (.cells #[.int .i64 n, .string (str xs)] 23)).heap.size = w.heap.size + 1 by simp] at h2
  exact ⟨h1, h2, ((Below.refl _ w).alloc (Nat.le_refl _) _).alloc (by simp) _⟩

theorem order_long (w : World) (n m : Int) (xs ys : List Nat) (h : 100 < xs.length ∨ (xs.length ≤ 100 ∧ 100 < ys.length)) : Calls Try.prog 5 #[ent n xs, ent m ys] w (Yes w) := by
  have HB := hid (boxes_new w n m xs ys)
  obtain ⟨hc0, hc1⟩ := HB.out.a
  obtain ⟨hc2, hc3⟩ := HB.out.b
  have hs := str_size xs
  have hs' := str_size ys
  rcases h with h | ⟨h, h'⟩
  · have hl : (100 : Int) < xs.length := by omega
    unfold ent
    go_enter Try.func5, Try.ntmps5
    go_wp2_with fail
    refine (awake_any _).mono ?_
    rintro e w1 ⟨rfl, hb1⟩
    go_wp2
    go_ret
    exact ⟨rfl, below_step HB.out.c hb1⟩
  · have hl : (xs.length : Int) ≤ 100 := by omega
    have hl' : (100 : Int) < ys.length := by omega
    unfold ent
    go_enter Try.func5, Try.ntmps5
    go_wp2_with fail
    refine (awake_any _).mono ?_
    rintro e w1 ⟨rfl, hb1⟩
    go_wp2
    go_ret
    exact ⟨rfl, below_step HB.out.c hb1⟩
/-- Put, whatever the key. -/
def putS (n : Int) (xs : List Nat) : List Nat := if keyB xs = true then wv n ++ xs else []
theorem put_any (w : World) (n : Int) (xs : List Nat) (hn : I64 n) :
    Calls Try.prog 10 #[ent n xs] w fun e w' => e = .returned (.tuple #[.string (str (putS n xs)), .int .i64 (checkE xs)]) ∧ Below w.heap.size w w' := by
  cases hk : keyB xs with
  | true =>
    rw [show putS n xs = wv n ++ xs by unfold putS; rw [if_pos hk], checkE_yes hk]
    exact put_ok w n xs hn hk
  | false =>
    rw [show putS n xs = [] by unfold putS; rw [hk]; rfl, checkE_no hk]
    exact put_no w n xs hk

theorem order_no (w : World) (n m : Int) (xs ys : List Nat) (hn : I64 n) (hm : I64 m) (hx : Byt xs) (hy : Byt ys) (hlx : xs.length ≤ 100) (hly : ys.length ≤ 100) (h : keyB xs = false ∨ (keyB xs = true ∧ keyB ys = false)) :
    Calls Try.prog 5 #[ent n xs, ent m ys] w (Yes w) := by
  have HB := hid (boxes_new w n m xs ys)
  obtain ⟨hc0, hc1⟩ := HB.out.a
  obtain ⟨hc2, hc3⟩ := HB.out.b
  have hs := str_size xs
  have hs' := str_size ys
  have hl : (xs.length : Int) ≤ 100 := by omega
  have hl' : (ys.length : Int) ≤ 100 := by omega
  obtain ⟨A, HA⟩ : ∃ A, Hid (A = str (putS n xs)) := ⟨_, rfl⟩
  obtain ⟨B, HBB⟩ : ∃ A, Hid (A = str (putS m ys)) := ⟨_, rfl⟩
  have hce : (checkE xs = 13 ∧ keyB xs = false) ∨ (checkE xs = 0 ∧ checkE ys = 13) := h.imp (fun h => ⟨checkE_no h, h⟩) (fun h => ⟨checkE_yes h.1, checkE_no h.2⟩)
  rcases hce with ⟨hce, _⟩ | ⟨hce, hce'⟩
  all_goals
    unfold ent
    go_enter Try.func5, Try.ntmps5
    go_wp2_with fail
    refine (refcompare_any _ n m xs ys hx hy (by omega) (by omega)).mono ?_
    rintro e w1 ⟨rfl, hb1⟩
    have HB1 := hid (HB.out.below hb1)
    obtain ⟨hd0, hd1⟩ := HB1.out.a
    obtain ⟨hd2, hd3⟩ := HB1.out.b
    clear hb1 hc0 hc1 hc2 hc3
    go_wp2_with fail
    refine (compare_any _ n m xs ys hx hy).mono ?_
    rintro e w2 ⟨rfl, hb2⟩
    have HB2 := hid (HB1.out.below hb2)
    obtain ⟨hc0, hc1⟩ := HB2.out.a
    obtain ⟨hc2, hc3⟩ := HB2.out.b
    clear hb2 hd0 hd1 hd2 hd3
    go_wp2_with fail
    refine (put_any _ n xs hn).mono ?_
    rw [← HA.out, hce]
    rintro e w3 ⟨rfl, hb3⟩
    have HB3 := hid (HB2.out.below hb3)
    obtain ⟨hd0, hd1⟩ := HB3.out.a
    obtain ⟨hd2, hd3⟩ := HB3.out.b
    clear hb3 hc0 hc1 hc2 hc3
    go_wp2_with fail
    refine (put_any _ m ys hm).mono ?_
    rw [← HBB.out]
    try rw [hce']
    rintro e w4 ⟨rfl, hb4⟩
    have HB4 := hid (HB3.out.below hb4)
    clear hb4
    go_wp2_with fail
    refine (awake_any _).mono ?_
    rintro e w5 ⟨rfl, hb5⟩
    go_wp2
    go_ret
    exact ⟨rfl, below_step HB4.out.c hb5⟩
theorem order_yes (w : World) (n m : Int) (xs ys : List Nat) (hn : I64 n) (hm : I64 m) (hx : Byt xs) (hy : Byt ys) (hk : keyB xs = true) (hk' : keyB ys = true) :
    Calls Try.prog 5 #[ent n xs, ent m ys] w (Yes w) := by
  have hlx := (keyB_yes hk).2.2
  have hly := (keyB_yes hk').2.2
  have HB := hid (boxes_new w n m xs ys)
  obtain ⟨hc0, hc1⟩ := HB.out.a
  obtain ⟨hc2, hc3⟩ := HB.out.b
  have hs := str_size xs
  have hs' := str_size ys
  have hl : (xs.length : Int) ≤ 100 := by omega
  have hl' : (ys.length : Int) ≤ 100 := by omega
  have hcc := cmpE_cases n m xs ys hn hm
  obtain ⟨c, HC⟩ : ∃ c, Hid (c = cmpE n xs m ys) := ⟨_, rfl⟩
  obtain ⟨A, HA⟩ : ∃ A, Hid (A = wv n ++ xs) := ⟨_, rfl⟩
  obtain ⟨B, HBB⟩ : ∃ B, Hid (B = wv m ++ ys) := ⟨_, rfl⟩
  have hA : Byt A := by rw [HA.out]; exact (wv_byt n).app hx
  have hB : Byt B := by rw [HBB.out]; exact (wv_byt m).app hy
  have h1 := less_str hA hB
  have h2 := beq_str hA hB
  have hcc' : (c = -1 ∧ A < B ∧ A ≠ B) ∨ (c = 0 ∧ ¬ A < B ∧ A = B) ∨ (c = 1 ∧ ¬ A < B ∧ A ≠ B) := by
    rw [HC.out, HA.out, HBB.out]
    rcases hcc with h | ⟨h, rfl, rfl⟩ | h
    · exact .inl h
    · exact .inr (.inl ⟨h, List.lt_irrefl _, rfl⟩)
    · exact .inr (.inr h)
  clear hcc hA hB hlx hly
  rcases hcc' with ⟨hc, hlt, hne⟩ | ⟨hc, hlt, hne⟩ | ⟨hc, hlt, hne⟩
  all_goals
    try subst hne
    first | simp only [hlt, hne, decide_true, decide_false] at h1 h2 | simp only [hlt, decide_true, decide_false] at h1 h2
    have HHC := hid hc
    clear hc hlt
    try clear hne
    unfold ent
    go_enter Try.func5, Try.ntmps5
    go_wp2_with fail
    refine (refcompare_any _ n m xs ys hx hy (by omega) (by omega)).mono ?_
    rw [← HC.out, HHC.out]
    rintro e w1 ⟨rfl, hb1⟩
    have HB1 := hid (HB.out.below hb1)
    obtain ⟨hd0, hd1⟩ := HB1.out.a
    obtain ⟨hd2, hd3⟩ := HB1.out.b
    clear hb1 hc0 hc1 hc2 hc3
    go_wp2_with fail
    refine (compare_any _ n m xs ys hx hy).mono ?_
    rw [← HC.out, HHC.out]
    rintro e w2 ⟨rfl, hb2⟩
    have HB2 := hid (HB1.out.below hb2)
    obtain ⟨hc0, hc1⟩ := HB2.out.a
    obtain ⟨hc2, hc3⟩ := HB2.out.b
    clear hb2 hd0 hd1 hd2 hd3
    go_wp2_with fail
    refine (put_ok _ n xs hn hk).mono ?_
    rw [← HA.out]
    rintro e w3 ⟨rfl, hb3⟩
    have HB3 := hid (HB2.out.below hb3)
    obtain ⟨hd0, hd1⟩ := HB3.out.a
    obtain ⟨hd2, hd3⟩ := HB3.out.b
    clear hb3 hc0 hc1 hc2 hc3
    go_wp2_with fail
    refine (put_ok _ m ys hm hk').mono ?_
    rw [← HBB.out]
    rintro e w4 ⟨rfl, hb4⟩
    have HB4 := hid (HB3.out.below hb4)
    clear hb4
    go_wp2_with fail
    refine (awake_any _).mono ?_
    rintro e w5 ⟨rfl, hb5⟩
    go_wp2
    go_ret
    exact ⟨rfl, below_step HB4.out.c hb5⟩
theorem order_any (w : World) (n m : Int) (xs ys : List Nat) (hn : I64 n) (hm : I64 m) (hx : Byt xs) (hy : Byt ys) :
    Calls Try.prog 5 #[ent n xs, ent m ys] w (Yes w) := by
  by_cases h : xs.length ≤ 100
  · by_cases h' : ys.length ≤ 100
    · cases hk : keyB xs with
      | false => exact order_no w n m xs ys hn hm hx hy h h' (.inl hk)
      | true =>
        cases hk' : keyB ys with
        | false => exact order_no w n m xs ys hn hm hx hy h h' (.inr ⟨hk, hk'⟩)
        | true => exact order_yes w n m xs ys hn hm hx hy hk hk'
    · exact order_long w n m xs ys (.inr ⟨h, by omega⟩)
  · exact order_long w n m xs ys (.inl (by omega))
end Go.Proofs.Ytomkfggilehhgaa
