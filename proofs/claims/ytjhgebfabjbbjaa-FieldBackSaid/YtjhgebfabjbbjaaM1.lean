/- Numbers as groups of seven bits: what is written, and that it is read in one way alone. Plain mathematics. -/
namespace Go.Proofs.Ytjhgebfabjbbjaa

def Byt (xs : List Nat) : Prop := ∀ b ∈ xs, b < 256
theorem Byt.nil : Byt [] := fun _ h => by cases h
theorem Byt.head {x : Nat} {xs : List Nat} (h : Byt (x :: xs)) : x < 256 := h x List.mem_cons_self
theorem Byt.tail {x : Nat} {xs : List Nat} (h : Byt (x :: xs)) : Byt xs := fun b hb => h b (List.mem_cons_of_mem _ hb)
theorem Byt.app {xs ys : List Nat} (h : Byt xs) (k : Byt ys) : Byt (xs ++ ys) := fun b hb => (List.mem_append.1 hb).elim (h b) (k b)
theorem Byt.drop {xs : List Nat} (h : Byt xs) (n : Nat) : Byt (xs.drop n) := fun b hb => h b (List.mem_of_mem_drop hb)
theorem Byt.take {xs : List Nat} (h : Byt xs) (n : Nat) : Byt (xs.take n) := fun b hb => h b (List.mem_of_mem_take hb)
theorem Byt.right {xs ys : List Nat} (h : Byt (xs ++ ys)) : Byt ys := fun b hb => h b (List.mem_append_right _ hb)
theorem Byt.left {xs ys : List Nat} (h : Byt (xs ++ ys)) : Byt xs := fun b hb => h b (List.mem_append_left _ hb)

/-- A number's groups. -/
def gr (n : Nat) : List Nat := if n < 128 then [n] else (n % 128 + 128) :: gr (n / 128)
theorem gr_lt {n : Nat} (h : n < 128) : gr n = [n] := by rw [gr, if_pos h]
theorem gr_ge {n : Nat} (h : 128 ≤ n) : gr n = (n % 128 + 128) :: gr (n / 128) := by rw [gr, if_neg (by omega)]
theorem gr_byt (n : Nat) : Byt (gr n) := by
  induction n using Nat.strongRecOn with
  | _ n ih =>
    intro b hb
    by_cases h : n < 128
    · rw [gr_lt h] at hb; simp at hb; omega
    · rw [gr_ge (by omega)] at hb
      rcases List.mem_cons.1 hb with rfl | hb
      · omega
      · exact ih (n / 128) (by omega) b hb
theorem gr_pos (n : Nat) : 1 ≤ (gr n).length := by
  by_cases h : n < 128
  · rw [gr_lt h]; simp
  · rw [gr_ge (by omega)]; simp
theorem gr_ne (n : Nat) : gr n ≠ [] := by have := gr_pos n; intro h; rw [h] at this; simp at this
/-- As many groups as it takes. -/
theorem gr_len_le (k : Nat) : ∀ n, n < 128 ^ (k + 1) → (gr n).length ≤ k + 1 := by
  induction k with
  | zero => intro n h; rw [gr_lt (by simpa using h)]; simp
  | succ k ih =>
    intro n h
    by_cases h1 : n < 128
    · rw [gr_lt h1]; simp
    · rw [gr_ge (by omega)]
      have := ih (n / 128) (by rw [Nat.div_lt_iff_lt_mul (by omega)]; rw [Nat.pow_succ] at h; exact h)
      simp only [List.length_cons]; omega
theorem gr_len9 {n : Nat} (h : n < 9223372036854775808) : (gr n).length ≤ 9 := gr_len_le 8 n (by simpa using h)
theorem gr_len10 {n : Nat} (h : n < 18446744073709551616) : (gr n).length ≤ 10 := gr_len_le 9 n (Nat.lt_of_lt_of_le h (by decide))
theorem gr_mono : ∀ n m, n ≤ m → (gr n).length ≤ (gr m).length := by
  intro n
  induction n using Nat.strongRecOn with
  | _ n ih =>
    intro m h
    by_cases h1 : n < 128
    · rw [gr_lt h1]; exact gr_pos m
    · rw [gr_ge (n := n) (by omega), gr_ge (n := m) (by omega)]
      have := ih (n / 128) (by omega) (m / 128) (by omega)
      simp only [List.length_cons]; omega
/-- No groups begin others. -/
theorem gr_inj : ∀ n m (xs ys : List Nat), gr n ++ xs = gr m ++ ys → n = m ∧ xs = ys := by
  intro n
  induction n using Nat.strongRecOn with
  | _ n ih =>
    intro m xs ys h
    by_cases h1 : n < 128 <;> by_cases h2 : m < 128
    · rw [gr_lt h1, gr_lt h2] at h
      simp only [List.cons_append, List.nil_append, List.cons.injEq] at h
      exact h
    · rw [gr_lt h1, gr_ge (n := m) (by omega)] at h
      simp only [List.cons_append, List.cons.injEq] at h
      omega
    · rw [gr_ge (n := n) (by omega), gr_lt h2] at h
      simp only [List.cons_append, List.cons.injEq] at h
      omega
    · rw [gr_ge (n := n) (by omega), gr_ge (n := m) (by omega)] at h
      simp only [List.cons_append, List.cons.injEq] at h
      obtain ⟨e, h⟩ := h
      obtain ⟨e', hx⟩ := ih (n / 128) (by omega) (m / 128) xs ys h
      exact ⟨by omega, hx⟩

/-- The number of seven bits each, the lowest first. -/
def val : List Nat → Nat
  | [] => 0
  | b :: bs => b % 128 + 128 * val bs
theorem val_lt (xs : List Nat) : val xs < 128 ^ xs.length := by
  induction xs with
  | nil => simp [val]
  | cons b bs ih => simp only [val, List.length_cons, Nat.pow_succ]; omega
theorem val_snoc (xs : List Nat) (b : Nat) : val (xs ++ [b]) = val xs + b % 128 * 128 ^ xs.length := by
  induction xs with
  | nil => simp [val]
  | cons c cs ih =>
    simp only [List.cons_append, val, ih, List.length_cons, Nat.pow_succ, Nat.mul_add]
    rw [show 128 * (b % 128 * 128 ^ cs.length) = b % 128 * (128 ^ cs.length * 128) by rw [Nat.mul_left_comm, Nat.mul_comm (128 ^ cs.length)]]
    omega
theorem val_gr (n : Nat) : val (gr n) = n := by
  induction n using Nat.strongRecOn with
  | _ n ih =>
    by_cases h : n < 128
    · rw [gr_lt h]; simp [val]; omega
    · rw [gr_ge (by omega)]
      simp only [val]
      rw [ih (n / 128) (by omega)]
      omega
/-- Bytes that go on, and one that does not, and is not empty, are a number's groups. -/
theorem gr_of : ∀ (xs : List Nat) (b : Nat), (∀ x ∈ xs, 128 ≤ x ∧ x < 256) → b < 128 → (0 < b ∨ xs = []) → gr (val (xs ++ [b])) = xs ++ [b]
  | [], b, _, hb, _ => by
    simp only [List.nil_append, val, Nat.mul_zero, Nat.add_zero]
    rw [Nat.mod_eq_of_lt hb, gr_lt hb]
  | x :: xs, b, hx, hb, h0 => by
    have h1 := hx x List.mem_cons_self
    have hb0 : 0 < b := by rcases h0 with h | h; exact h; cases h
    have ih := gr_of xs b (fun y hy => hx y (List.mem_cons_of_mem _ hy)) hb (.inl hb0)
    have hpos : 1 ≤ val (xs ++ [b]) := by
      rw [val_snoc, Nat.mod_eq_of_lt hb]
      have : 1 * 1 ≤ b * 128 ^ xs.length := Nat.mul_le_mul hb0 (Nat.pow_pos (by omega))
      omega
    simp only [List.cons_append, val]
    rw [gr_ge (by omega)]
    rw [show (x % 128 + 128 * val (xs ++ [b])) / 128 = val (xs ++ [b]) by omega, ih]
    congr 1
    omega
/-- All but the last go on. -/
theorem gr_go (n : Nat) : ∃ ys b, gr n = ys ++ [b] ∧ (∀ x ∈ ys, 128 ≤ x ∧ x < 256) ∧ b < 128 ∧ (0 < b ∨ ys = []) := by
  induction n using Nat.strongRecOn with
  | _ n ih =>
    by_cases h : n < 128
    · exact ⟨[], n, by rw [gr_lt h]; rfl, by simp, h, .inr rfl⟩
    · obtain ⟨ys, b, e, hy, hb, h0⟩ := ih (n / 128) (by omega)
      refine ⟨(n % 128 + 128) :: ys, b, by rw [gr_ge (by omega), e]; rfl, ?_, hb, .inl ?_⟩
      · intro x hx
        rcases List.mem_cons.1 hx with rfl | hx
        · omega
        · exact hy x hx
      · rcases h0 with h0 | h0
        · exact h0
        · subst h0
          have hv : val (gr (n / 128)) = n / 128 := val_gr _
          rw [e] at hv
          simp [val] at hv
          omega


theorem val_append (xs ys : List Nat) : val (xs ++ ys) = val xs + 128 ^ xs.length * val ys := by
  induction xs with
  | nil => simp [val]
  | cons c cs ih =>
    simp only [List.cons_append, val, ih, List.length_cons, Nat.pow_succ, Nat.mul_add]
    rw [show 128 * (128 ^ cs.length * val ys) = 128 ^ cs.length * 128 * val ys by rw [← Nat.mul_assoc, Nat.mul_comm 128]]
    omega
theorem val_take_le (xs : List Nat) (k : Nat) : val (xs.take k) ≤ val xs := by
  have h := val_append (xs.take k) (xs.drop k)
  rw [List.take_append_drop] at h
  omega
theorem val_take_succ {xs : List Nat} {k x : Nat} (hx : xs[k]? = some x) : val (xs.take (k + 1)) = val (xs.take k) + x % 128 * 128 ^ k := by
  have hk : k < xs.length := (List.getElem?_eq_some_iff.1 hx).1
  rw [List.take_add_one, hx]
  simp only [Option.toList_some]
  rw [val_snoc, List.length_take, Nat.min_eq_left (by omega)]
theorem pow_seven (k : Nat) : 2 ^ (k * 7) = 128 ^ k := by rw [Nat.mul_comm, Nat.pow_mul]
/-- Below ten groups no sum is too great. -/
theorem grp_room {V p k : Nat} (hV : V < 128 ^ k) (hp : p < 128) (hk : k ≤ 9) (hP : p * 128 ^ k < 18446744073709551616) : V + p * 128 ^ k < 18446744073709551616 := by
  rcases Nat.lt_or_ge k 9 with h | h
  · have h1 : 128 ^ (k + 1) ≤ 128 ^ 9 := Nat.pow_le_pow_right (by omega) (by omega)
    have h2 : p * 128 ^ k ≤ 127 * 128 ^ k := Nat.mul_le_mul_right _ (by omega)
    rw [Nat.pow_succ] at h1
    have h3 : (128 : Nat) ^ 9 < 18446744073709551616 := by decide
    omega
  · obtain rfl : k = 9 := by omega
    simp only [show (128 : Nat) ^ 9 = 9223372036854775808 by decide] at hV hP ⊢
    omega
theorem grp_fits {p k : Nat} (hp : p < 128) (hk : k ≤ 9) (h : k < 9 ∨ p < 2) : p * 128 ^ k < 18446744073709551616 := by
  rcases Nat.lt_or_ge k 9 with h9 | h9
  · have h1 : 128 ^ (k + 1) ≤ 128 ^ 9 := Nat.pow_le_pow_right (by omega) (by omega)
    have h2 : p * 128 ^ k ≤ 127 * 128 ^ k := Nat.mul_le_mul_right _ (by omega)
    rw [Nat.pow_succ] at h1
    have h3 : (128 : Nat) ^ 9 < 18446744073709551616 := by decide
    omega
  · obtain rfl : k = 9 := by omega
    simp only [show (128 : Nat) ^ 9 = 9223372036854775808 by decide]
    omega
/-- No groups stand there. -/
def NoGr (xs : List Nat) : Prop := ∀ n ys, n < 18446744073709551616 → xs ≠ gr n ++ ys
theorem gr_found {xs : List Nat} {k x : Nat} (h : NoGr xs) (hb : Byt xs) (hx : xs[k]? = some x) (hgo : ∀ y ∈ xs.take k, 128 ≤ y) (hlt : x < 128) (h0 : 0 < x ∨ k = 0) (hk : k ≤ 9) (hP : x % 128 * 128 ^ k < 18446744073709551616) : False := by
  have hkl : k < xs.length := (List.getElem?_eq_some_iff.1 hx).1
  have h1 := gr_of (xs.take k) x (fun y hy => ⟨hgo y hy, hb.take k y hy⟩) hlt (by rcases h0 with h0 | h0; exact .inl h0; subst h0; exact .inr rfl)
  refine h (val (xs.take k ++ [x])) (xs.drop (k + 1)) ?_ ?_
  · rw [val_snoc, List.length_take, Nat.min_eq_left (by omega)]
    have hV := val_lt (xs.take k)
    rw [List.length_take, Nat.min_eq_left (by omega)] at hV
    exact grp_room hV (by omega) hk hP
  · rw [h1, List.append_assoc, List.singleton_append]
    have : xs.drop k = x :: xs.drop (k + 1) := by
      rw [List.drop_eq_getElem_cons hkl]
      congr 1
      rw [List.getElem?_eq_getElem hkl] at hx
      injection hx
    rw [← this, List.take_append_drop]
theorem gr_dec (xs : List Nat) : (∃ n ys, n < 18446744073709551616 ∧ xs = gr n ++ ys) ∨ NoGr xs := by
  by_cases h : ∃ n ys, n < 18446744073709551616 ∧ xs = gr n ++ ys
  · exact .inl h
  · exact .inr fun n ys hn e => h ⟨n, ys, hn, e⟩

/-- A number as groups of it twice, or of -1 less it, twice, and 1. -/
def zig (n : Int) : Nat := if n < 0 then ((-1 - n) * 2 + 1).toNat else (n * 2).toNat
theorem zig_neg {n : Int} (h : n < 0) : zig n = ((-1 - n) * 2 + 1).toNat := by unfold zig; rw [if_pos h]
theorem zig_pos {n : Int} (h : 0 ≤ n) : zig n = (n * 2).toNat := by unfold zig; rw [if_neg (by omega)]
theorem zig_lt {n : Int} (h1 : -9223372036854775808 ≤ n) (h2 : n ≤ 9223372036854775807) : zig n < 18446744073709551616 := by
  unfold zig; split <;> omega
theorem zig_even {n : Int} (h : 0 ≤ n) : zig n % 2 = 0 ∧ ((zig n / 2 : Nat) : Int) = n := by rw [zig_pos h]; omega
theorem zig_odd {n : Int} (h : n < 0) : zig n % 2 = 1 ∧ -1 - ((zig n / 2 : Nat) : Int) = n := by rw [zig_neg h]; omega

/-- What is written of a text. -/
def tx (t : List Nat) : List Nat := gr t.length ++ t
theorem tx_byt {t : List Nat} (h : Byt t) : Byt (tx t) := (gr_byt _).app h
end Go.Proofs.Ytjhgebfabjbbjaa
