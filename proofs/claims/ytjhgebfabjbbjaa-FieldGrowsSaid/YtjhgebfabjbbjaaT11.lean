import Derived.Test.YtjhgebfabjbbjaaT10
namespace Go.Proofs.Ytjhgebfabjbbjaa
open Go.RowKit

/-- How many bytes go on. -/
def lead (xs : List Nat) : Nat := (xs.takeWhile (fun b => decide (128 ≤ b))).length
theorem lead_le (xs : List Nat) : lead xs ≤ xs.length := by unfold lead; exact (List.takeWhile_sublist _).length_le
theorem lead_go : ∀ (xs : List Nat) (k x : Nat), k < lead xs → xs[k]? = some x → 128 ≤ x
  | [], k, x, h, _ => by simp [lead] at h
  | y :: ys, k, x, h, hx => by
    unfold lead at h
    by_cases hy : 128 ≤ y
    · rw [List.takeWhile_cons_of_pos (by simpa using hy)] at h
      cases k with
      | zero => simp at hx; omega
      | succ k => exact lead_go ys k x (by unfold lead; simpa using h) (by simpa using hx)
    · rw [List.takeWhile_cons_of_neg (by simpa using hy)] at h
      simp at h
theorem lead_end : ∀ (xs : List Nat) (x : Nat), xs[lead xs]? = some x → x < 128
  | [], x, h => by simp at h
  | y :: ys, x, h => by
    by_cases hy : 128 ≤ y
    · have e : lead (y :: ys) = lead ys + 1 := by unfold lead; rw [List.takeWhile_cons_of_pos (by simpa using hy)]; simp
      rw [e] at h
      exact lead_end ys x (by simpa using h)
    · have e : lead (y :: ys) = 0 := by unfold lead; rw [List.takeWhile_cons_of_neg (by simpa using hy)]; simp
      rw [e] at h
      simp at h; omega

def Nums (w : World) (a b c : Nat) (e : Ending) (w' : World) : Prop :=
  e = .returned (.agg #[.int .i64 a, .int .i64 b, .int .i64 c]) ∧ Below w.heap.size w w'
abbrev nought : Obj := .cells #[.int .i64 0, .int .i64 0, .int .i64 0] 41

set_option maxRecDepth 100000 in
theorem refread_short (w : World) (v : Value) (xs : List Nat) (hs : Sl .u8 w v xs) (hl : xs.length ≤ 1000) (hbad : xs.length ≤ lead xs) :
    Calls Try.prog 20 #[v] w (Nums w 0 0 0) := by
  have HS := hid hs
  obtain ⟨A, cap, rfl, hlc, hm, _, hc⟩ := hs
  obtain ⟨len, HL⟩ : ∃ len, Hid (len = xs.length) := ⟨_, rfl⟩
  obtain ⟨l, HD⟩ : ∃ l, Hid (l = lead xs) := ⟨_, rfl⟩
  have hle := lead_le xs
  rw [← HL.out] at hlc hl hle hbad ⊢
  rw [← HD.out] at hle hbad
  have hge : ∀ k x, k < l → xs[k]? = some x → 128 ≤ x := fun k x h => lead_go xs k x (by rw [← HD.out]; exact h)
  have HG := hid hge
  have HC : Hid (∀ (i b : Nat), xs[i]? = some b → ∃ ad, A = some ad ∧ (w.alloc (.cells #[.int .i64 0, .int .i64 0, .int .i64 0] 41)).cell? (ad.add i) = some (.int .u8 (b : Int))) := fun i b hi => by
    obtain ⟨ad, h1, h2⟩ := hc i b hi
    exact ⟨ad, h1, below_keep ((Below.refl _ _).alloc (Nat.le_refl _) _) _ _ h2⟩
  clear hge hc hm
  go_enter Try.func20, Try.ntmps20
  go_wp2
  go_loop [3] (fun i => ∃ k : Nat, k ≤ l ∧ i = .int .i64 k) (fun i => l - (intOf i).toNat)
  case atStart => exact ⟨0, by omega, rfl⟩
  case round =>
    obtain ⟨k, hk, rfl⟩ := hrel
    by_cases hlt : k < l
    · obtain ⟨x, hx⟩ : ∃ b, xs[k]? = some b := ⟨xs[k]'(by have := HL.out; omega), List.getElem?_eq_getElem _⟩
      have hx1 := HG.out k x hlt hx
      obtain ⟨ad, rfl, hcell⟩ := HC.out k x hx
      have hkl : k < len := by omega
      have hkl1 : (k : Int) < len := by omega
      clear hx
      go_wp2
      go_round
      case rel => exact ⟨k + 1, by omega, by go_num⟩
      case measure => simp [intOf]; omega
    · obtain rfl : k = len := by omega
      go_wp2
      exact bodyPost_ret (v := .agg #[.int .i64 0, .int .i64 0, .int .i64 0]) (by simp [results, Try.results20, go_sem]) rfl ⟨rfl, (Below.refl _ _).alloc (Nat.le_refl _) _⟩

set_option maxRecDepth 100000 in
theorem refread_bad (w : World) (v : Value) (xs : List Nat) (hs : Sl .u8 w v xs) (hl : xs.length ≤ 1000) (hll : lead xs < xs.length)
    (hbad : 10 ≤ lead xs ∨ lead xs = 9 ∧ ∃ x, xs[9]? = some x ∧ 1 < x) :
    Calls Try.prog 20 #[v] w (Nums w 0 0 0) := by
  have HS := hid hs
  obtain ⟨A, cap, rfl, hlc, hm, _, hc⟩ := hs
  obtain ⟨len, HL⟩ : ∃ len, Hid (len = xs.length) := ⟨_, rfl⟩
  obtain ⟨l, HD⟩ : ∃ l, Hid (l = lead xs) := ⟨_, rfl⟩
  rw [← HL.out] at hlc hl hll ⊢
  rw [← HD.out] at hll hbad
  have hge : ∀ k x, k < l → xs[k]? = some x → 128 ≤ x := fun k x h => lead_go xs k x (by rw [← HD.out]; exact h)
  have hend : ∀ x, xs[l]? = some x → x < 128 := fun x h => lead_end xs x (by rw [← HD.out]; exact h)
  have HG := hid hge
  have HE := hid hend
  have HC : Hid (∀ (i b : Nat), xs[i]? = some b → ∃ ad, A = some ad ∧ (w.alloc (.cells #[.int .i64 0, .int .i64 0, .int .i64 0] 41)).cell? (ad.add i) = some (.int .u8 (b : Int))) := fun i b hi => by
    obtain ⟨ad, h1, h2⟩ := hc i b hi
    exact ⟨ad, h1, below_keep ((Below.refl _ _).alloc (Nat.le_refl _) _) _ _ h2⟩
  have HBAD := hid hbad
  clear hge hend hc hbad hm
  go_enter Try.func20, Try.ntmps20
  go_wp2
  go_loop [3] (fun i => ∃ k : Nat, k ≤ l ∧ i = .int .i64 k) (fun i => l - (intOf i).toNat)
  case atStart => exact ⟨0, by omega, rfl⟩
  case round =>
    obtain ⟨k, hk, rfl⟩ := hrel
    by_cases hlt : k < l
    · obtain ⟨x, hx⟩ : ∃ b, xs[k]? = some b := ⟨xs[k]'(by have := HL.out; omega), List.getElem?_eq_getElem _⟩
      have hx1 := HG.out k x hlt hx
      obtain ⟨ad, rfl, hcell⟩ := HC.out k x hx
      have hkl : k < len := by omega
      have hkl1 : (k : Int) < len := by omega
      clear hx
      go_wp2
      go_round
      case rel => exact ⟨k + 1, by omega, by go_num⟩
      case measure => simp [intOf]; omega
    · obtain rfl : k = l := by omega
      obtain ⟨x, hx⟩ : ∃ b, xs[k]? = some b := ⟨xs[k]'(by have := HL.out; omega), List.getElem?_eq_getElem _⟩
      have hx1 := HE.out x hx
      have hx1' : ¬ 128 ≤ (x : Int) := by omega
      obtain ⟨ad, rfl, hcell⟩ := HC.out k x hx
      have HX := hid hx
      have hkl1 : (k : Int) < len := by omega
      clear hx
      by_cases h9 : k = 9
      · subst h9
        have h1x : 1 < x := by
          rcases HBAD.out with h | ⟨_, y, hy, h1⟩
          · omega
          · have := HX.out; rw [hy] at this; injection this with this; omega
        have h1x' : 1 < (x : Int) := by omega
        rw [show ad.add 9 = { block := ad.block, off := ad.off + 9, spot := none } from Addr.add_succ' ad 8] at hcell
        go_wp2
        exact bodyPost_ret (v := .agg #[.int .i64 0, .int .i64 0, .int .i64 0]) (by simp [results, Try.results20, go_sem]) rfl ⟨rfl, (Below.refl _ _).alloc (Nat.le_refl _) _⟩
      · have h10 : 10 ≤ k := by
          rcases HBAD.out with h | ⟨h, _⟩
          · exact h
          · omega
        go_wp2
        exact bodyPost_ret (v := .agg #[.int .i64 0, .int .i64 0, .int .i64 0]) (by simp [results, Try.results20, go_sem]) rfl ⟨rfl, (Below.refl _ _).alloc (Nat.le_refl _) _⟩
end Go.Proofs.Ytjhgebfabjbbjaa
