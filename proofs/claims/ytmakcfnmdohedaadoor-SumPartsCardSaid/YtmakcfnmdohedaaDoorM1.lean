/- Plain mathematics of check sums: no program is named here. -/
import Derived.Laws.BitsAllLaws
namespace Go.Proofs.YtmakcfnmdohedaaDoor
namespace Crc

def poly : Nat := 3988292384
def tab : List Nat := [0, 498536548, 997073096, 651767980, 1994146192, 1802195444, 1303535960, 1342533948, 3988292384, 4027552580, 3604390888, 3412177804, 2607071920, 2262029012, 2685067896, 3183342108]

/-- One bit goes out. -/
def bit (X : Nat) : Nat := (X / 2) ^^^ (if X % 2 = 1 then poly else 0)
def bits8 (X : Nat) : Nat := bit (bit (bit (bit (bit (bit (bit (bit X)))))))
/-- Four bits go out, by the table. -/
def nib (X : Nat) : Nat := (X / 16) ^^^ (tab.getD (X % 16) 0)
def byt (R b : Nat) : Nat := nib (nib (R ^^^ b))
def run (R : Nat) (l : List Nat) : Nat := l.foldl byt R
def fin (R : Nat) : Nat := 4294967295 ^^^ R
def sum (n : Nat) (l : List Nat) : Nat := fin (run (fin n) l)
def Byt (l : List Nat) : Prop := ∀ b ∈ l, b < 256

theorem tab_lt : ∀ i, i < 16 → tab.getD i 0 < 4294967296 := by decide
theorem tab_lt' (i : Nat) : tab.getD i 0 < 4294967296 := by
  by_cases h : i < 16
  · exact tab_lt i h
  · rw [List.getD_eq_getElem?_getD, List.getElem?_eq_none (by simp [tab]; omega)]
    simp
theorem xor_lt {a b : Nat} (ha : a < 4294967296) (hb : b < 4294967296) : a ^^^ b < 4294967296 := Nat.xor_lt_two_pow (n := 32) ha hb
theorem bit_lt {X : Nat} (h : X < 4294967296) : bit X < 4294967296 := by
  unfold bit; apply xor_lt (by omega); unfold poly; split <;> omega
theorem nib_lt {X : Nat} (h : X < 4294967296) : nib X < 4294967296 := xor_lt (by omega) (tab_lt' _)
theorem byt_lt {R b : Nat} (h : R < 4294967296) (hb : b < 256) : byt R b < 4294967296 := nib_lt (nib_lt (xor_lt h (by omega)))
theorem run_nil (R : Nat) : run R [] = R := rfl
theorem run_cons (R b : Nat) (l : List Nat) : run R (b :: l) = run (byt R b) l := rfl
theorem run_append (R : Nat) (a b : List Nat) : run R (a ++ b) = run (run R a) b := by simp [run]
theorem Byt.head {b : Nat} {l : List Nat} (h : Byt (b :: l)) : b < 256 := h b List.mem_cons_self
theorem Byt.tail {b : Nat} {l : List Nat} (h : Byt (b :: l)) : Byt l := fun x hx => h x (List.mem_cons_of_mem _ hx)
theorem run_lt {l : List Nat} : ∀ {R : Nat}, R < 4294967296 → Byt l → run R l < 4294967296 := by
  induction l with
  | nil => intro R h _; rw [run_nil]; exact h
  | cons b l ih => intro R h hb; rw [run_cons]; exact ih (byt_lt h hb.head) hb.tail
theorem fin_lt {R : Nat} (h : R < 4294967296) : fin R < 4294967296 := xor_lt (by omega) h
theorem xor_twice (a R : Nat) : a ^^^ (a ^^^ R) = R := by rw [← Nat.xor_assoc, Nat.xor_self, Nat.zero_xor]
theorem fin_def (R : Nat) : fin R = 4294967295 ^^^ R := rfl
theorem fin_fin (R : Nat) : fin (fin R) = R := by rw [fin_def, fin_def, xor_twice]
theorem xor_thrice (F a b c : Nat) : F ^^^ (a ^^^ b ^^^ c) = (F ^^^ a) ^^^ (F ^^^ b) ^^^ (F ^^^ c) := by
  rw [show (F ^^^ a) ^^^ (F ^^^ b) ^^^ (F ^^^ c) = (F ^^^ F) ^^^ (F ^^^ (a ^^^ b ^^^ c)) by ac_rfl, Nat.xor_self, Nat.zero_xor]
theorem xor_self3 (F : Nat) : (F ^^^ F) ^^^ F = F := by rw [Nat.xor_self, Nat.zero_xor]
theorem fin_sub {R : Nat} (h : R < 4294967296) : 4294967295 - R = fin R := by
  unfold fin
  have h1 := BitVec.toNat_not (x := BitVec.ofNat 32 R)
  rw [BitVec.not_def, BitVec.toNat_xor] at h1
  simp at h1
  rw [Nat.mod_eq_of_lt h] at h1
  omega
theorem sum_lt {n : Nat} {l : List Nat} (h : n < 4294967296) (hl : Byt l) : sum n l < 4294967296 := fin_lt (run_lt (fin_lt h) hl)
theorem sum_append (n : Nat) (a b : List Nat) : sum (sum n a) b = sum n (a ++ b) := by
  unfold sum; rw [fin_fin, run, run, run, List.foldl_append]
theorem sum_nil (n : Nat) : sum n [] = n := by unfold sum run; simp [fin_fin]

theorem bit_xor (X Y : Nat) : bit (X ^^^ Y) = bit X ^^^ bit Y := by
  unfold bit
  simp only [Nat.xor_div_two, Nat.xor_mod_two_eq_one]
  by_cases hx : X % 2 = 1 <;> by_cases hy : Y % 2 = 1 <;> simp [hx, hy]
  · rw [show X / 2 ^^^ poly ^^^ (Y / 2 ^^^ poly) = X / 2 ^^^ Y / 2 ^^^ (poly ^^^ poly) by ac_rfl, Nat.xor_self, Nat.xor_zero]
  · ac_rfl
  · ac_rfl
theorem bit_two (q : Nat) : bit (2 * q) = q := by unfold bit; rw [if_neg (by omega)]; simp
theorem split16 (X : Nat) : X = (2 * (2 * (2 * (2 * (X / 16))))) ^^^ (X % 16) := by
  have h := Nat.two_pow_add_eq_or_of_lt (i := 4) (b := X % 16) (by omega) (X / 16)
  have hd : 2 ^ 4 * (X / 16) &&& X % 16 = 0 := by
    apply Nat.eq_of_testBit_eq
    intro j
    simp only [Nat.testBit_and, Nat.testBit_two_pow_mul, Nat.zero_testBit]
    by_cases hj : j < 4
    · simp [show ¬ 4 ≤ j by omega]
    · rw [Nat.testBit_lt_two_pow (Nat.lt_of_lt_of_le (show X % 16 < 2 ^ 4 by omega) (Nat.pow_le_pow_right (by omega) (by omega : 4 ≤ j)))]; simp
  have hx : 2 ^ 4 * (X / 16) ^^^ X % 16 = 2 ^ 4 * (X / 16) ||| X % 16 := by
    apply Nat.eq_of_testBit_eq
    intro j
    have := congrArg (Nat.testBit · j) hd
    simp only [Nat.testBit_and, Nat.zero_testBit] at this
    rw [Nat.testBit_xor, Nat.testBit_or]
    revert this
    cases Nat.testBit (2 ^ 4 * (X / 16)) j <;> cases Nat.testBit (X % 16) j <;> simp
  have e : 2 * (2 * (2 * (2 * (X / 16)))) = 2 ^ 4 * (X / 16) := by omega
  rw [e, hx, ← h]; omega
theorem bit_small : ∀ m, m < 16 → bit (bit (bit (bit m))) = tab.getD m 0 := by decide
/-- The table is four bits. -/
theorem nib_bits (X : Nat) : nib X = bit (bit (bit (bit X))) := by
  have h := split16 X
  have e : bit (bit (bit (bit X))) = bit (bit (bit (bit (2 * (2 * (2 * (2 * (X / 16)))))))) ^^^ bit (bit (bit (bit (X % 16)))) := by
    rw [← bit_xor, ← bit_xor, ← bit_xor, ← bit_xor, ← h]
  rw [e, bit_two, bit_two, bit_two, bit_two, bit_small _ (by omega)]
  rfl
theorem byt_bits (R b : Nat) : byt R b = bits8 (R ^^^ b) := by unfold byt bits8; rw [nib_bits, nib_bits]

theorem nib_xor (X Y : Nat) : nib (X ^^^ Y) = nib X ^^^ nib Y := by simp only [nib_bits, bit_xor]
theorem byt_xor (R S a b : Nat) : byt (R ^^^ S) (a ^^^ b) = byt R a ^^^ byt S b := by
  unfold byt
  rw [show R ^^^ S ^^^ (a ^^^ b) = (R ^^^ a) ^^^ (S ^^^ b) by ac_rfl, nib_xor, nib_xor]
def xors (a b : List Nat) : List Nat := List.zipWith (· ^^^ ·) a b
theorem run_xor : ∀ (a b : List Nat) (R S : Nat), a.length = b.length → run (R ^^^ S) (xors a b) = run R a ^^^ run S b
  | [], [], R, S, _ => rfl
  | x :: a, y :: b, R, S, h => by
    show run (byt (R ^^^ S) (x ^^^ y)) (xors a b) = _
    rw [byt_xor, run_xor a b _ _ (by simpa using h)]
    rfl
  | [], _ :: _, _, _, h => by simp at h
  | _ :: _, [], _, _, h => by simp at h
theorem run_xor3 (F : Nat) (a b c : List Nat) (h1 : a.length = b.length) (h2 : b.length = c.length) : run F (xors (xors a b) c) = run F a ^^^ run F b ^^^ run F c := by
  have l : (xors a b).length = c.length := by simp [xors]; omega
  have r := run_xor (xors a b) c (F ^^^ F) F l
  rw [run_xor a b _ _ h1, xor_self3] at r
  exact r
/-- P1.1, of three rows. -/
theorem sum_xor3 (n : Nat) (a b c : List Nat) (h1 : a.length = b.length) (h2 : b.length = c.length) : sum n (xors (xors a b) c) = sum n a ^^^ sum n b ^^^ sum n c := by
  unfold sum
  rw [run_xor3 _ a b c h1 h2]
  exact xor_thrice _ _ _ _
theorem bit_zero : bit 0 = 0 := by decide
theorem nib_zero : nib 0 = 0 := by decide
theorem bit_inj0 {X : Nat} (h : X < 4294967296) (e : bit X = 0) : X = 0 := by
  unfold bit at e
  split at e
  · have h1 : X / 2 = poly := by
      have := congrArg (· ^^^ poly) e
      simpa [Nat.xor_assoc] using this
    unfold poly at h1; omega
  · simp at e; omega
theorem nib_inj0 {X : Nat} (h : X < 4294967296) (e : nib X = 0) : X = 0 := by
  rw [nib_bits] at e
  exact bit_inj0 h (bit_inj0 (bit_lt h) (bit_inj0 (bit_lt (bit_lt h)) (bit_inj0 (bit_lt (bit_lt (bit_lt h))) e)))
theorem bits8_inj0 {X : Nat} (h : X < 4294967296) (e : bits8 X = 0) : X = 0 := by
  have h2 := byt_bits X 0
  rw [Nat.xor_zero] at h2
  rw [← h2] at e
  unfold byt at e
  rw [Nat.xor_zero] at e
  exact nib_inj0 h (nib_inj0 (nib_lt h) e)
theorem bits8_lt {X : Nat} (h : X < 4294967296) : bits8 X < 4294967296 := bit_lt (bit_lt (bit_lt (bit_lt (bit_lt (bit_lt (bit_lt (bit_lt h)))))))
theorem bits8_xor (X Y : Nat) : bits8 (X ^^^ Y) = bits8 X ^^^ bits8 Y := by simp only [bits8, bit_xor]
theorem bits8_256 (q : Nat) : bits8 (256 * q) = q := by
  unfold bits8
  rw [show 256 * q = 2 * (2 * (2 * (2 * (2 * (2 * (2 * (2 * q))))))) by omega]
  simp only [bit_two]
theorem xor_eq_zero {a b : Nat} (h : a ^^^ b = 0) : a = b := by
  have := congrArg (· ^^^ b) h
  simpa [Nat.xor_assoc] using this

theorem run_zeros_ne : ∀ (n : Nat) (R : Nat), R < 4294967296 → run R (List.replicate n 0) = 0 → R = 0
  | 0, R, _, e => by simpa [run_nil] using e
  | n + 1, R, h, e => by
    rw [List.replicate_succ, run_cons] at e
    have h1 := run_zeros_ne n _ (byt_lt h (by omega)) e
    rw [byt_bits, Nat.xor_zero] at h1
    exact bits8_inj0 h h1
theorem run_zeros0 : ∀ n, run 0 (List.replicate n 0) = 0
  | 0 => rfl
  | n + 1 => by
    rw [List.replicate_succ, run_cons, show byt 0 0 = 0 by decide]
    exact run_zeros0 n
theorem four_ne {a b c d : Nat} (ha : a < 256) (hb : b < 256) (hc : c < 256) (hd : d < 256) (e : run 0 [a, b, c, d] = 0) : a = 0 ∧ b = 0 ∧ c = 0 ∧ d = 0 := by
  simp only [run_cons, run_nil, byt_bits, Nat.zero_xor] at e
  have e1 : bits8 (bits8 (bits8 (bits8 (a ^^^ 256 * b ^^^ 256 * (256 * c) ^^^ 256 * (256 * (256 * d)))))) = 0 := by
    simp only [bits8_xor, bits8_256]
    simp only [bits8_xor] at e
    rw [← e]
  have hlt : ∀ x, x < 256 → ∀ k, k ≤ 24 → 2 ^ k * x < 4294967296 := by
    intro x hx k hk
    have : 2 ^ k ≤ 2 ^ 24 := Nat.pow_le_pow_right (by omega) hk
    have := Nat.mul_le_mul this (Nat.le_of_lt_succ hx)
    omega
  have l1 : 256 * b < 4294967296 := by omega
  have l2 : 256 * (256 * c) < 4294967296 := by omega
  have l3 : 256 * (256 * (256 * d)) < 4294967296 := by omega
  have lt := xor_lt (xor_lt (xor_lt (show a < 4294967296 by omega) l1) l2) l3
  have z := bits8_inj0 lt (bits8_inj0 (bits8_lt lt) (bits8_inj0 (bits8_lt (bits8_lt lt)) (bits8_inj0 (bits8_lt (bits8_lt (bits8_lt lt))) e1)))
  -- the lowest byte, then the next ones
  have m : ∀ x y : Nat, x < 256 → x ^^^ 256 * y = 0 → x = 0 ∧ y = 0 := by
    intro x y hx h
    have := xor_eq_zero h
    omega
  rw [show a ^^^ 256 * b ^^^ 256 * (256 * c) ^^^ 256 * (256 * (256 * d)) = a ^^^ (256 * b ^^^ (256 * (256 * c) ^^^ 256 * (256 * (256 * d)))) by ac_rfl] at z
  have f : ∀ x y : Nat, 256 * x ^^^ 256 * y = 256 * (x ^^^ y) := by
    intro x y
    have := Nat.shiftLeft_xor_distrib (a := x) (b := y) (i := 8)
    simp only [Nat.shiftLeft_eq, show (2 : Nat) ^ 8 = 256 from rfl] at this
    rw [Nat.mul_comm 256 x, Nat.mul_comm 256 y, Nat.mul_comm 256 (x ^^^ y)]
    exact this.symm
  rw [f, f, f] at z
  obtain ⟨z0, z⟩ := m _ _ ha z
  obtain ⟨z1, z⟩ := m _ _ hb z
  obtain ⟨z2, z3⟩ := m _ _ hc z
  exact ⟨z0, z1, z2, z3⟩
end Crc
end Go.Proofs.YtmakcfnmdohedaaDoor
