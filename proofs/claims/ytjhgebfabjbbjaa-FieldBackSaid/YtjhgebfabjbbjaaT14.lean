import Derived.Test.YtjhgebfabjbbjaaT13
import Derived.Test.YtjhgebfabjbbjaaB2
namespace Go.Proofs.Ytjhgebfabjbbjaa
open Go.RowKit

section
variable {F G F' G' : List Nat} {a b c w w' : World}
theorem Chg.wide (h : Chg F w w' F') (G : List Nat) : Chg (F ++ G) w w' (F' ++ G) :=
  ⟨h.os, h.tape, h.output, h.size, fun k hl hk => h.block k hl fun hF => hk (List.mem_append_left _ hF), fun k hk => by
    rcases List.mem_append.1 hk with hk | hk
    · rcases h.foot k hk with hh | hh
      · exact .inl (List.mem_append_left _ hh)
      · exact .inr hh
    · exact .inl (List.mem_append_right _ hk)⟩
theorem Chg.wideL (h : Chg F w w' F') (G : List Nat) : Chg (G ++ F) w w' (G ++ F') :=
  ⟨h.os, h.tape, h.output, h.size, fun k hl hk => h.block k hl fun hF => hk (List.mem_append_right _ hF), fun k hk => by
    rcases List.mem_append.1 hk with hk | hk
    · exact .inl (List.mem_append_left _ hk)
    · rcases h.foot k hk with hh | hh
      · exact .inl (List.mem_append_right _ hh)
      · exact .inr hh⟩
/-- A new block beside. -/
theorem Chg.add (h : Chg F a b G) (o : Obj) : Chg F a (b.alloc o) (b.heap.size :: G) :=
  ⟨(h.alloc o).os, (h.alloc o).tape, (h.alloc o).output, (h.alloc o).size, (h.alloc o).block, fun k hk => by
    rcases List.mem_cons.1 hk with rfl | hk
    · exact .inr h.size
    · exact h.foot k hk⟩
theorem Chg.left (h : Chg F a b (G ++ G')) : Chg F a b G := h.less fun k hk => .inl (List.mem_append_left _ hk)
theorem Chg.right (h : Chg F a b (G ++ G')) : Chg F a b G' := h.less fun k hk => .inl (List.mem_append_right _ hk)
end

theorem Apart.nilL (F : List Nat) : Apart [] F := fun _ h => by cases h
theorem Apart.new {F G : List Nat} {a b : World} (h : Chg [] a b G) (hl : ∀ k ∈ F, k < a.heap.size) : Apart G F := Apart.fresh h.nil_from hl
theorem Wr.out {G G' : List Nat} {w w' : World} {F : List Nat} {p : Value} {xs : List Nat} (h : Wr w F p xs) (hc : Chg G w w' G') (hap : Apart G F) : Wr w' F p xs := h.keep (hc.out h.lt hap)
theorem Rd.out {G G' : List Nat} {w w' : World} {g : Nat} {xs : List Nat} (h : Rd w g xs) (hc : Chg G w w' G') (hap : Apart G [g]) : Rd w' g xs := One.keep h (hc.out (fun k hk => by obtain rfl := List.mem_singleton.1 hk; exact One.lt h) hap g (List.mem_singleton.2 rfl))
theorem Rd.lt {w : World} {g : Nat} {xs : List Nat} (h : Rd w g xs) : ∀ k ∈ [g], k < w.heap.size := fun k hk => by obtain rfl := List.mem_singleton.1 hk; exact One.lt h

/-- A new reader. -/
theorem read_new (w : World) (v : Value) (xs : List Nat) (hs : Sl .u8 w v xs) :
    Calls Try.prog 19 #[v] w fun e w' => ∃ g, e = .returned (.pointer (some ⟨g, 0, none⟩)) ∧ Rd w' g xs ∧ Chg [] w w' [g] :=
  (read_any w v xs hs).mono fun _ _ ⟨he, hw⟩ => ⟨w.heap.size, he, by rw [hw]; exact rd_new w xs, by rw [hw]; exact (Chg.refl [] w).add _⟩

theorem ab_str : (⟨#[97, 98]⟩ : ByteArray) = str [97, 98] := by
  apply ba_ext; rw [str_list]; rfl
theorem no_128_0 : NoGr [128, 0] := by
  intro n ys hn h
  by_cases h1 : n < 128
  · rw [gr_lt h1] at h; simp at h <;> omega
  · rw [gr_ge (by omega)] at h
    by_cases h2 : n / 128 < 128
    · rw [gr_lt h2] at h; simp at h <;> omega
    · rw [gr_ge (by omega)] at h; simp at h <;> omega
def woke : List Nat := [172, 2, 1, 2, 2, 97, 98]
theorem woke_eq : ((([] ++ gr (300 : Nat)) ++ gr (zig (-1))) ++ gr (zig 1)) ++ tx [97, 98] = woke := by
  rw [show zig (-1) = 1 by decide, show zig 1 = 2 by decide, show gr 300 = [172, 2] by (rw [gr_ge (by omega), gr_lt (by omega)]), show gr 1 = [1] from gr_lt (by omega), show gr 2 = [2] from gr_lt (by omega)]
  unfold tx
  rw [show gr [97, 98].length = [2] from gr_lt (by simp)]
  rfl
theorem woke_row {w : World} {e : TypeId} {fz : Nat × Nat} : Sl .u8 (w.alloc (.cells #[.int .u8 172, .int .u8 2, .int .u8 1, .int .u8 2, .int .u8 2, .int .u8 97, .int .u8 98] e fz)) (.slice (some ⟨w.heap.size, 0, none⟩) 7 7) woke := by
  refine Sl.row (xs := woke) (c := 7) (heap_alloc_new w _) (by simp [woke]) (by simp [maxLen]) ?_
  intro i x hi
  match i with
  | 0 | 1 | 2 | 3 | 4 | 5 | 6 => simp [woke] at hi ⊢; omega
  | i + 7 => simp [woke] at hi
theorem two_row {w : World} {e : TypeId} {fz : Nat × Nat} : Sl .u8 (w.alloc (.cells #[.int .u8 128, .int .u8 0] e fz)) (.slice (some ⟨w.heap.size, 0, none⟩) 2 2) [128, 0] := by
  refine Sl.row (xs := [128, 0]) (c := 2) (heap_alloc_new w _) (by simp) (by simp [maxLen]) ?_
  intro i x hi
  match i with
  | 0 | 1 => simp at hi ⊢; omega
  | i + 2 => simp at hi

theorem awake_any (w : World) : Calls Try.prog 10 #[] w (Yes w) := by
  have HW0 := hid (wr_new w)
  have HC0 : Hid (Chg [] w (w.alloc (.cells #[.slice none 0 0] 28)) [w.heap.size]) := Chg.add (Chg.refl [] w) _
  have HAB := hid ab_str
  go_enter Try.func10, Try.ntmps10
  go_wp2_with fail
  refine (wuint _ _ _ [] 300 HW0.out (by omega) (by simp)).mono ?_
  rintro e w1 ⟨rfl, F1, hW1, hc1⟩
  have HW1 := hid hW1
  have HC1 := hid (HC0.out.trans hc1)
  clear hW1 hc1
  go_wp2_with fail
  refine (wint _ _ _ _ (-1) HW1.out (by omega) (by omega) (by simp; exact Nat.le_trans (gr_len10 (by omega)) (by omega))).mono ?_
  rintro e w2 ⟨rfl, F2, hW2, hc2⟩
  have HW2 := hid hW2
  have HC2 := hid (HC1.out.trans hc2)
  clear hW2 hc2
  go_wp2_with fail
  refine (wint _ _ _ _ 1 HW2.out (by omega) (by omega) (by simp; have := gr_len10 (n := 300) (by omega); have := gr_len10 (n := zig (-1)) (by decide); omega)).mono ?_
  rintro e w3 ⟨rfl, F3, hW3, hc3⟩
  have HW3 := hid hW3
  have HC3 := hid (HC2.out.trans hc3)
  clear hW3 hc3
  go_wp2_with fail
  rw [HAB.out]
  refine (wtext _ _ _ _ [97, 98] HW3.out (by intro b hb; simp at hb; omega) (by simp) (by simp; have := gr_len10 (n := 300) (by omega); have := gr_len10 (n := zig (-1)) (by decide); have := gr_len10 (n := zig 1) (by decide); omega)).mono ?_
  rw [woke_eq]
  rintro e w4 ⟨rfl, F4, hW4, hc4⟩
  have HW4 := hid hW4
  have HC4 := hid (HC3.out.trans hc4)
  clear hW4 hc4 HAB
  go_wp2_with fail
  refine (read_new _ _ [128, 0] two_row).mono ?_
  rintro e w5 ⟨g, rfl, hR5, hc5⟩
  have HW5 := hid ((HW4.out.out ((Chg.refl [] w4).alloc (.cells #[.int .u8 128, .int .u8 0] 5)) (Apart.nilL _)).out hc5 (Apart.nilL _))
  have HA5 := hid (Apart.new hc5 (HW4.out.out ((Chg.refl [] w4).alloc (.cells #[.int .u8 128, .int .u8 0] 5)) (Apart.nilL _)).lt)
  have HC5 := hid ((HC4.out.alloc (.cells #[.int .u8 128, .int .u8 0] 5)).trans (hc5.wide F4))
  have HR5 := hid hR5
  clear hR5 hc5
  go_wp2_with fail
  refine (ruint_form _ g [128, 0] HR5.out (by intro b hb; simp at hb; omega) no_128_0 (by simp)).mono ?_
  rintro e w6 ⟨rfl, _, hc6⟩
  have HW6 := hid (HW5.out.out hc6 HA5.out)
  have HC6 := hid (HC5.out.trans (hc6.wide F4))
  clear hc6
  go_wp2_with fail
  refine (wbytes_fresh _ _ _ woke HW6.out (by simp [woke])).mono ?_
  rintro e w7 ⟨u, rfl, hu, hc7⟩
  have HU := hid hu.sl
  have HC7 := hid (HC6.out.nil_below.trans (hc7.nil_below.mono HC6.out.size))
  clear hu hc7
  go_wp2_with fail
  refine (bytes_any _ _ _ woke woke (HU.out.alloc _) woke_row).mono ?_
  rintro e w8 ⟨rfl, hb8⟩
  rw [show eqB woke woke = true by decide]
  go_wp2
  go_ret
  exact ⟨rfl, below_step (HC7.out.alloc HC7.out.size _) hb8⟩
end Go.Proofs.Ytjhgebfabjbbjaa
