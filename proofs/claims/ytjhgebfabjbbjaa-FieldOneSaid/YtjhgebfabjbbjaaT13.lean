import Derived.Test.YtjhgebfabjbbjaaT12
namespace Go.Proofs.Ytjhgebfabjbbjaa
open Go.RowKit

theorem lead_at : ∀ (ys zs : List Nat) (b : Nat), (∀ x ∈ ys, 128 ≤ x ∧ x < 256) → b < 128 → lead (ys ++ b :: zs) = ys.length
  | [], zs, b, _, hb => by
    unfold lead; rw [List.nil_append, List.takeWhile_cons_of_neg (by simpa using hb)]
  | y :: ys, zs, b, h, hb => by
    have ih := lead_at ys zs b (fun x hx => h x (List.mem_cons_of_mem _ hx)) hb
    unfold lead at ih ⊢
    have := (h y List.mem_cons_self).1
    rw [List.cons_append, List.takeWhile_cons_of_pos (by simpa using this), List.length_cons, ih, List.length_cons]
theorem half_room {x0 : Nat} {t : List Nat} {l : Nat} (h9 : l ≤ 9) (h19 : l = 9 → ∀ x, (x0 :: t)[9]? = some x → x ≤ 1) : half t l + 63 < 9223372036854775808 := by
  unfold half
  rcases Nat.lt_or_ge l 9 with h | h
  · have h1 := val_lt (t.take l)
    have h2 : 128 ^ (t.take l).length ≤ 128 ^ 8 := Nat.pow_le_pow_right (by omega) (by rw [List.length_take]; omega)
    have h3 : (128 : Nat) ^ 8 = 72057594037927936 := by decide
    omega
  · obtain rfl : l = 9 := by omega
    have h3 : (128 : Nat) ^ 8 = 72057594037927936 := by decide
    cases hx : t[8]? with
    | some x =>
      have h1 := h19 rfl x hx
      have h2 := val_lt (t.take 8)
      have h4 : 128 ^ (t.take 8).length ≤ 128 ^ 8 := Nat.pow_le_pow_right (by omega) (by rw [List.length_take]; omega)
      have h5 := val_take_succ hx
      have h6 : x % 128 * 128 ^ 8 ≤ 1 * 128 ^ 8 := Nat.mul_le_mul_right _ (by omega)
      rw [show (9 : Nat) = 8 + 1 from rfl, h5]
      omega
    | none =>
      have hl : t.length ≤ 8 := by simpa using hx
      have h2 := val_lt (t.take 9)
      have h4 : 128 ^ (t.take 9).length ≤ 128 ^ 8 := Nat.pow_le_pow_right (by omega) (by rw [List.length_take]; omega)
      omega
theorem whole_val {x0 : Nat} {t : List Nat} {l : Nat} : 2 * (half t l + x0 % 128 / 2) + x0 % 2 = val ((x0 :: t).take (l + 1)) := by
  unfold half
  simp only [List.take_succ_cons, val]
  omega

theorem refread_yes (w : World) (v : Value) (N : Nat) (rest : List Nat) (hs : Sl .u8 w v (gr N ++ rest)) (hb : Byt rest) (hN : N < 18446744073709551616) (hl : (gr N ++ rest).length ≤ 1000) :
    Calls Try.prog 20 #[v] w (Nums w (N / 2) (N % 2) (gr N).length) := by
  obtain ⟨ys, b, he, hy, hb7, h0⟩ := gr_go N
  have hbyt : Byt (gr N ++ rest) := (gr_byt N).app hb
  have hld : lead (gr N ++ rest) = ys.length := by rw [he, List.append_assoc, List.singleton_append]; exact lead_at ys rest b hy hb7
  have hlen : (gr N).length = ys.length + 1 := by rw [he]; simp
  have h10 := gr_len10 hN
  have htk : (gr N ++ rest).take (ys.length + 1) = gr N := by rw [← hlen, List.take_left]
  have hlt : ys.length < (gr N ++ rest).length := by rw [List.length_append, hlen]; omega
  have h19 : ys.length = 9 → ∀ x, (gr N ++ rest)[9]? = some x → x ≤ 1 := by
    intro h9 x hx
    rw [he, List.append_assoc, ← h9, List.getElem?_append_right (Nat.le_refl _)] at hx
    simp at hx
    subst hx
    have h1 := val_snoc ys b
    rw [← he, val_gr, h9, show (128 : Nat) ^ 9 = 9223372036854775808 by decide] at h1
    omega
  have hpre : preB (gr N ++ rest) (gr N) = true := preB_yes (List.take_left)
  generalize hxs : gr N ++ rest = xs at *
  cases xs with
  | nil => simp at hlt
  | cons x0 t =>
    have hv : 2 * (half t ys.length + x0 % 128 / 2) + x0 % 2 = N := by rw [whole_val, htk, val_gr]
    have h := refread_good w v x0 t hs hbyt hl ys.length hld.symm hlt (by omega) h19 (half_room (x0 := x0) (by omega) h19) true (by rw [hv]; exact hpre)
    refine h.mono fun e w' hq => ?_
    have e1 : half t ys.length + x0 % 128 / 2 = N / 2 := by omega
    have e2 : x0 % 2 = N % 2 := by omega
    rw [e1, e2] at hq
    rw [hlen]
    exact hq
theorem refread_no (w : World) (v : Value) (xs : List Nat) (hs : Sl .u8 w v xs) (hb : Byt xs) (hno : NoGr xs) (hl : xs.length ≤ 1000) :
    Calls Try.prog 20 #[v] w (Nums w 0 0 0) := by
  by_cases h1 : xs.length ≤ lead xs
  · exact refread_short w v xs hs hl h1
  by_cases h2 : 10 ≤ lead xs ∨ lead xs = 9 ∧ ∃ x, xs[9]? = some x ∧ 1 < x
  · exact refread_bad w v xs hs hl (by omega) h2
  have h9 : lead xs ≤ 9 := by
    rcases Nat.lt_or_ge (lead xs) 10 with h | h
    · omega
    · exact (h2 (.inl h)).elim
  have h19 : lead xs = 9 → ∀ x, xs[9]? = some x → x ≤ 1 := fun h x hx => by
    rcases Nat.lt_or_ge 1 x with h' | h'
    · exact (h2 (.inr ⟨h, x, hx, h'⟩)).elim
    · exact h'
  cases xs with
  | nil => simp at h1
  | cons x0 t =>
    have hr := half_room (x0 := x0) h9 h19
    generalize hl' : lead (x0 :: t) = l at *
    have hpre : preB (x0 :: t) (gr (2 * (half t l + x0 % 128 / 2) + x0 % 2)) = false := by
      unfold preB; simp
      rintro ⟨c, hc⟩
      exact hno _ c (by omega) hc.symm
    exact refread_good w v x0 t hs hb hl l hl'.symm (by omega) h9 h19 hr false hpre
end Go.Proofs.Ytjhgebfabjbbjaa
