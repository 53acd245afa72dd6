/- Eight bytes of a number, the highest one first, and their order; strings as lists of bytes. No program is named here. -/
import Derived.Test.YtomkfggilehhgaaB1
import Derived.Lib.Strings
namespace Go.Proofs.Ytomkfggilehhgaa
open Go.RowKit

def Byt (xs : List Nat) : Prop := ∀ b ∈ xs, b < 256
theorem Byt.app {xs ys : List Nat} (h : Byt xs) (k : Byt ys) : Byt (xs ++ ys) := fun b hb => by
  rcases List.mem_append.1 hb with hb | hb
  · exact h b hb
  · exact k b hb
theorem Byt.drop {xs : List Nat} (h : Byt xs) (n : Nat) : Byt (xs.drop n) := fun b hb => h b (List.mem_of_mem_drop hb)
theorem Byt.take {xs : List Nat} (h : Byt xs) (n : Nat) : Byt (xs.take n) := fun b hb => h b (List.mem_of_mem_take hb)

/-- The k lowest bytes of a number, the highest one first. -/
def be : Nat → Nat → List Nat
  | 0, _ => []
  | k + 1, N => (N / 256 ^ k % 256) :: be k N
theorem be_len : ∀ (k N : Nat), (be k N).length = k
  | 0, _ => rfl
  | k + 1, N => by simp [be, be_len k N]
theorem be_byt : ∀ (k N : Nat), Byt (be k N)
  | 0, _ => fun _ h => by cases h
  | k + 1, N => fun b hb => by
    rcases List.mem_cons.1 hb with rfl | hb
    · exact Nat.mod_lt _ (by omega)
    · exact be_byt k N b hb
theorem be_mod : ∀ (k N M : Nat), N % 256 ^ k = M % 256 ^ k → be k N = be k M
  | 0, _, _, _ => rfl
  | k + 1, N, M, h => by
    rw [Nat.mod_pow_succ, Nat.mod_pow_succ] at h
    have hN : N % 256 ^ k < 256 ^ k := Nat.mod_lt _ (Nat.pow_pos (by omega))
    have hM : M % 256 ^ k < 256 ^ k := Nat.mod_lt _ (Nat.pow_pos (by omega))
    have hp : 0 < 256 ^ k := Nat.pow_pos (by omega)
    have h1 : N / 256 ^ k % 256 = M / 256 ^ k % 256 := by
      have e := congrArg (· / 256 ^ k) h
      simp only [Nat.add_mul_div_left _ _ hp, Nat.div_eq_of_lt hN, Nat.div_eq_of_lt hM, Nat.zero_add] at e
      exact e
    have h2 : N % 256 ^ k = M % 256 ^ k := by rw [h1] at h; omega
    simp only [be]
    rw [h1, be_mod k N M h2]
/-- Eight bytes, and others behind: their order. -/
theorem be_lt : ∀ (k N M : Nat) (a b : List Nat), (be k N ++ a < be k M ++ b) ↔ N % 256 ^ k < M % 256 ^ k ∨ (N % 256 ^ k = M % 256 ^ k ∧ a < b)
  | 0, N, M, a, b => by simp [be, Nat.mod_one]
  | k + 1, N, M, a, b => by
    have hp : 0 < 256 ^ k := Nat.pow_pos (by omega)
    have hN : N % 256 ^ k < 256 ^ k := Nat.mod_lt _ hp
    have hM : M % 256 ^ k < 256 ^ k := Nat.mod_lt _ hp
    simp only [be, List.cons_append, List.cons_lt_cons_iff]
    rw [be_lt k N M a b, Nat.mod_pow_succ, Nat.mod_pow_succ]
    generalize N / 256 ^ k % 256 = x
    generalize M / 256 ^ k % 256 = y
    generalize N % 256 ^ k = u at *
    generalize M % 256 ^ k = v at *
    generalize 256 ^ k = p at *
    rcases Nat.lt_trichotomy x y with h | h | h
    · have : p * (x + 1) ≤ p * y := Nat.mul_le_mul_left p h
      rw [Nat.mul_add, Nat.mul_one] at this
      constructor
      · intro _; left; omega
      · intro _; left; exact h
    · subst h
      constructor
      · rintro (h | ⟨_, h | ⟨h, h'⟩⟩)
        · omega
        · left; omega
        · right; exact ⟨by omega, h'⟩
      · rintro (h | ⟨h, h'⟩)
        · exact .inr ⟨rfl, .inl (by omega)⟩
        · exact .inr ⟨rfl, .inr ⟨by omega, h'⟩⟩
    · have : p * (y + 1) ≤ p * x := Nat.mul_le_mul_left p h
      rw [Nat.mul_add, Nat.mul_one] at this
      constructor
      · rintro (h' | ⟨h', _⟩) <;> omega
      · rintro (h' | ⟨h', _⟩) <;> omega
theorem be_inj {k N M : Nat} {a b : List Nat} (hN : N < 256 ^ k) (hM : M < 256 ^ k) (h : be k N ++ a = be k M ++ b) : N = M ∧ a = b := by
  obtain ⟨h1, h2⟩ := List.append_inj h (by rw [be_len, be_len])
  refine ⟨?_, h2⟩
  have l1 : ¬ (be k N ++ [] < be k M ++ []) := by rw [h1]; exact List.lt_irrefl _
  have l2 : ¬ (be k M ++ [] < be k N ++ []) := by rw [h1]; exact List.lt_irrefl _
  rw [be_lt, Nat.mod_eq_of_lt hN, Nat.mod_eq_of_lt hM] at l1 l2
  omega

/-- The number of bytes. -/
def num (xs : List Nat) : Nat := xs.foldl (fun a b => 256 * a + b) 0
theorem num_snoc (xs : List Nat) (b : Nat) : num (xs ++ [b]) = 256 * num xs + b := by unfold num; rw [List.foldl_append]; rfl
theorem num_take {xs : List Nat} {i b : Nat} (h : xs[i]? = some b) : num (xs.take (i + 1)) = 256 * num (xs.take i) + b := by
  rw [List.take_add_one, h]; exact num_snoc _ _
theorem be_snoc : ∀ (k N b : Nat), b < 256 → be (k + 1) (256 * N + b) = be k N ++ [b]
  | 0, N, b, hb => by simp [be]; omega
  | k + 1, N, b, hb => by
    rw [be, be_snoc k N b hb, be]
    rw [show (256 * N + b) / 256 ^ (k + 1) = N / 256 ^ k by rw [Nat.pow_succ', ← Nat.div_div_eq_div_mul]; congr 1; omega]
    rfl
theorem snoc_ind {P : List Nat → Prop} (h0 : P []) (h1 : ∀ xs b, P xs → P (xs ++ [b])) (xs : List Nat) : P xs := by
  have h : ∀ ys : List Nat, P ys.reverse := fun ys => by
    induction ys with
    | nil => exact h0
    | cons y ys ih => rw [List.reverse_cons]; exact h1 _ _ ih
  have := h xs.reverse
  rwa [List.reverse_reverse] at this
theorem num_lt (xs : List Nat) : Byt xs → num xs < 256 ^ xs.length := by
  refine snoc_ind (P := fun xs => Byt xs → num xs < 256 ^ xs.length) ?_ (fun xs b ih => ?_) xs
  · intro _; simp [num]
  · intro h
    rw [num_snoc, List.length_append, List.length_singleton, Nat.pow_succ]
    have h1 := ih fun x hx => h x (List.mem_append_left _ hx)
    have h2 := h b (List.mem_append_right _ (List.mem_singleton.2 rfl))
    omega
theorem be_num (xs : List Nat) : Byt xs → be xs.length (num xs) = xs := by
  refine snoc_ind (P := fun xs => Byt xs → be xs.length (num xs) = xs) ?_ (fun xs b ih => ?_) xs
  · intro _; rfl
  · intro h
    have h1 := ih fun x hx => h x (List.mem_append_left _ hx)
    have h2 := h b (List.mem_append_right _ (List.mem_singleton.2 rfl))
    rw [num_snoc, List.length_append, List.length_singleton, be_snoc _ _ _ h2, h1]
theorem num_be {k N : Nat} (h : N < 256 ^ k) : num (be k N) = N := by
  have h1 := be_num (be k N) (be_byt k N)
  rw [be_len] at h1
  have h2 := num_lt (be k N) (be_byt k N)
  rw [be_len] at h2
  exact (be_inj (a := []) (b := []) h2 h (by rw [h1])).1

/-- A value's eight bytes: 2^63 more. -/
def lift (n : Int) : Nat := (n + 9223372036854775808).toNat
def wv (n : Int) : List Nat := be 8 (lift n)
theorem wv_len (n : Int) : (wv n).length = 8 := be_len _ _
theorem wv_byt (n : Int) : Byt (wv n) := be_byt _ _
def I64 (n : Int) : Prop := -9223372036854775808 ≤ n ∧ n ≤ 9223372036854775807
set_option maxRecDepth 100000 in
theorem lift_lt {n : Int} (h : I64 n) : lift n < 256 ^ 8 := by
  unfold lift; rw [show (256 : Nat) ^ 8 = 18446744073709551616 by rfl]; have := h.1; have := h.2; omega
theorem lift_cast {n : Int} (h : I64 n) : (lift n : Int) = n + 9223372036854775808 := by
  unfold lift; have := h.1; omega
theorem wv_lt {n m : Int} (hn : I64 n) (hm : I64 m) (a b : List Nat) : (wv n ++ a < wv m ++ b) ↔ n < m ∨ (n = m ∧ a < b) := by
  unfold wv
  rw [be_lt, Nat.mod_eq_of_lt (lift_lt hn), Nat.mod_eq_of_lt (lift_lt hm)]
  have h1 := lift_cast hn
  have h2 := lift_cast hm
  constructor
  · rintro (h | ⟨h, h'⟩)
    · left; omega
    · right; exact ⟨by omega, h'⟩
  · rintro (h | ⟨h, h'⟩)
    · left; omega
    · right; exact ⟨by omega, h'⟩
theorem wv_inj {n m : Int} (hn : I64 n) (hm : I64 m) {a b : List Nat} : (wv n ++ a = wv m ++ b) ↔ n = m ∧ a = b := by
  constructor
  · intro h
    obtain ⟨h1, h2⟩ := be_inj (lift_lt hn) (lift_lt hm) h
    have := lift_cast hn
    have := lift_cast hm
    exact ⟨by omega, h2⟩
  · rintro ⟨rfl, rfl⟩; rfl
/-- The value of bytes. -/
def val (xs : List Nat) : Int := (num (xs.take 8) : Int) - 9223372036854775808
set_option maxRecDepth 100000 in
theorem val_i64 {xs : List Nat} (hb : Byt xs) : I64 (val xs) := by
  have h := num_lt (xs.take 8) (hb.take 8)
  have h2 : 256 ^ (xs.take 8).length ≤ 256 ^ 8 := Nat.pow_le_pow_right (by omega) (by rw [List.length_take]; omega)
  rw [show (256 : Nat) ^ 8 = 18446744073709551616 by rfl] at h2
  unfold val I64; omega
theorem wv_val {xs : List Nat} (hb : Byt xs) (hl : 8 ≤ xs.length) : wv (val xs) ++ xs.drop 8 = xs := by
  have h : wv (val xs) = xs.take 8 := by
    have h1 := be_num (xs.take 8) (hb.take 8)
    rw [List.length_take, Nat.min_eq_left hl] at h1
    have h2 : lift (val xs) = num (xs.take 8) := by have := lift_cast (val_i64 hb); unfold val at this ⊢; omega
    unfold wv; rw [h2]; exact h1
  rw [h, List.take_append_drop]
theorem val_wv {n : Int} (h : I64 n) (a : List Nat) : val (wv n ++ a) = n := by
  unfold val
  rw [List.take_append_of_le_length (Nat.le_of_eq (wv_len _).symm), List.take_of_length_le (Nat.le_of_eq (wv_len _))]
  unfold wv
  rw [num_be (lift_lt h), lift_cast h]
  omega
theorem drop_wv (n : Int) (a : List Nat) : (wv n ++ a).drop 8 = a := by
  rw [List.drop_append_of_le_length (Nat.le_of_eq (wv_len _).symm), List.drop_of_length_le (Nat.le_of_eq (wv_len _)), List.nil_append]

theorem ba_ext {a b : ByteArray} (h : a.data.toList = b.data.toList) : a = b := by
  apply ByteArray.ext; exact Array.toList_inj.1 h
/-- The numbers of a string's bytes. -/
def nums (s : ByteArray) : List Nat := s.data.toList.map UInt8.toNat
theorem nums_byt (s : ByteArray) : Byt (nums s) := by
  intro b hb
  unfold nums at hb
  rw [List.mem_map] at hb
  obtain ⟨x, _, rfl⟩ := hb
  exact x.toNat_lt
theorem str_nums (s : ByteArray) : str (nums s) = s := by
  apply ba_ext
  rw [str_list]
  unfold nums
  rw [List.map_map]
  have : (UInt8.ofNat ∘ UInt8.toNat) = id := by funext x; simp
  rw [this, List.map_id]
theorem nums_len (s : ByteArray) : (nums s).length = s.size := by unfold nums; rw [List.length_map]; simp
theorem ofNat_inj {xs ys : List Nat} (hx : Byt xs) (hy : Byt ys) (h : xs.map UInt8.ofNat = ys.map UInt8.ofNat) : xs = ys := by
  have h' := congrArg (List.map UInt8.toNat) h
  rw [List.map_map, List.map_map] at h'
  have e : ∀ zs : List Nat, Byt zs → zs.map (UInt8.toNat ∘ UInt8.ofNat) = zs := fun zs hz => by
    conv => rhs; rw [← List.map_id zs]
    apply List.map_congr_left
    intro b hb
    simp [Nat.mod_eq_of_lt (hz b hb)]
  rwa [e xs hx, e ys hy] at h'
theorem str_inj {xs ys : List Nat} (hx : Byt xs) (hy : Byt ys) : str xs = str ys ↔ xs = ys := by
  constructor
  · intro h
    have := congrArg (fun b : ByteArray => b.data.toList) h
    simp only [str_list] at this
    exact ofNat_inj hx hy this
  · rintro rfl; rfl
theorem str_app (xs ys : List Nat) : str xs ++ str ys = str (xs ++ ys) := by
  apply ba_ext
  rw [str_list, List.map_append, ← str_list, ← str_list]
  simp
theorem str_drop (xs : List Nat) (n : Nat) : (str xs).extract n (str xs).size = str (xs.drop n) := by
  apply ba_ext
  rw [str_list, ByteArray.data_extract, str_size]
  have : (str xs).data.size = xs.length := str_size xs
  simp [str_list, List.map_drop, List.take_of_length_le]
theorem str_get {xs : List Nat} {i b : Nat} (hx : xs[i]? = some b) (hb : Byt xs) : ∃ h : i < (str xs).size, ((str xs)[i]'h).toNat = b := by
  have hi : i < xs.length := (List.getElem?_eq_some_iff.1 hx).1
  refine ⟨by rw [str_size]; exact hi, ?_⟩
  have h1 : (str xs).data.toList[i]? = some (UInt8.ofNat b) := by rw [str_list, List.getElem?_map, hx]; rfl
  have h2 : (str xs)[i]'(by rw [str_size]; exact hi) = UInt8.ofNat b := by
    rw [List.getElem?_eq_some_iff] at h1
    obtain ⟨_, h1⟩ := h1
    rw [Array.getElem_toList] at h1
    exact h1
  rw [h2]
  have := hb b (List.mem_of_getElem? hx)
  simp [Nat.mod_eq_of_lt this]
theorem str_toList (xs : List Nat) : (str xs).toList = xs.map UInt8.ofNat := by rw [Lib.toList_data, str_list]
theorem less_str : ∀ {xs ys : List Nat}, Byt xs → Byt ys → (Op.bytesLess (str xs).toList (str ys).toList = decide (xs < ys)) := by
  intro xs ys
  rw [str_toList, str_toList]
  induction xs generalizing ys with
  | nil => intro _ _; cases ys <;> simp [Op.bytesLess]
  | cons x xs ih =>
    intro hx hy
    cases ys with
    | nil => simp [Op.bytesLess]
    | cons y ys =>
      simp only [List.map_cons, Op.bytesLess]
      rw [ih (fun b hb => hx b (List.mem_cons_of_mem _ hb)) (fun b hb => hy b (List.mem_cons_of_mem _ hb))]
      have h1 := hx x List.mem_cons_self
      have h2 := hy y List.mem_cons_self
      have e1 : (UInt8.ofNat x < UInt8.ofNat y) ↔ x < y := by
        rw [UInt8.lt_iff_toNat_lt]; simp [Nat.mod_eq_of_lt h1, Nat.mod_eq_of_lt h2]
      have e2 : (UInt8.ofNat x == UInt8.ofNat y) = decide (x = y) := by
        rw [Bool.eq_iff_iff, beq_iff_eq, decide_eq_true_iff, ← UInt8.toNat_inj]; simp [Nat.mod_eq_of_lt h1, Nat.mod_eq_of_lt h2]
      rw [e2, Bool.eq_iff_iff]
      simp [e1, List.cons_lt_cons_iff]
theorem beq_str {xs ys : List Nat} (hx : Byt xs) (hy : Byt ys) : ((str xs).toList == (str ys).toList) = decide (xs = ys) := by
  rw [str_toList, str_toList, Bool.eq_iff_iff, beq_iff_eq, decide_eq_true_iff]
  exact ⟨ofNat_inj hx hy, fun h => by rw [h]⟩
theorem str_nil : (⟨#[]⟩ : ByteArray) = str [] := by apply ba_ext; rw [str_list]; rfl

/-- The order of texts, and of entries. -/
def cmpL (a b : List Nat) : Int := if a < b then -1 else if a = b then 0 else 1
def cmpE (n : Int) (a : List Nat) (m : Int) (b : List Nat) : Int := if n < m then -1 else if m < n then 1 else cmpL a b
end Go.Proofs.Ytomkfggilehhgaa
