/- The order of entries, as the reference has it. -/
import Derived.Test.YtlnagdodnkhbmaaT18
namespace Go.Proofs.Ytlnagdodnkhbmaa
open Go.RowKit
set_option maxRecDepth 100000

theorem app_lt : ∀ (l : List Nat) {a b : List Nat}, (l ++ a < l ++ b) ↔ a < b
  | [], _, _ => Iff.rfl
  | x :: l, a, b => by
    rw [List.cons_append, List.cons_append, List.cons_lt_cons_iff]
    have := app_lt l (a := a) (b := b)
    constructor
    · rintro (h | ⟨_, h⟩)
      · omega
      · exact this.1 h
    · intro h; exact .inr ⟨rfl, this.2 h⟩
theorem cut_at {xs : List Nat} {k x : Nat} (h : xs[k]? = some x) : xs = xs.take k ++ x :: xs.drop (k + 1) := by
  obtain ⟨hk, rfl⟩ := List.getElem?_eq_some_iff.1 h
  rw [← List.drop_eq_getElem_cons hk, List.take_append_drop]
theorem cmpL_at {a b : List Nat} {k x y : Nat} (hx : a[k]? = some x) (hy : b[k]? = some y) (ht : a.take k = b.take k) (h : x < y) : a < b := by
  rw [cut_at hx, cut_at hy, ht, app_lt, List.cons_lt_cons_iff]
  exact .inl h
theorem cmpL_short {a b : List Nat} (hl : a.length < b.length) (ht : a = b.take a.length) : a < b := by
  have hb : b = a ++ b.drop a.length := by
    conv => lhs; rw [← List.take_append_drop a.length b, ← ht]
  have hd : b.drop a.length ≠ [] := by
    intro e
    have := congrArg List.length e
    rw [List.length_drop] at this
    simp at this; omega
  rw [hb]
  have : a ++ [] < a ++ b.drop a.length := by
    rw [app_lt]
    cases hq : b.drop a.length with
    | nil => exact absurd hq hd
    | cons y ys => exact List.nil_lt_cons y ys
  rwa [List.append_nil] at this
theorem cmpL_of_gt {a b : List Nat} (h : b < a) : cmpL a b = 1 := by
  refine cmpL_gt (fun h' => ?_) (fun e => ?_)
  · exact List.lt_irrefl _ (List.lt_trans h h')
  · subst e; exact List.lt_irrefl _ h
theorem refcompare_no (w : World) (n m : Int) (s t : ByteArray) (h : n ≠ m) : Calls Try.prog 54 #[.int .i64 n, .string s, .int .i64 m, .string t] w fun e w' => e = .returned (.int .i64 (if n < m then -1 else 1)) ∧ w' = w := by
  by_cases h' : n < m
  · rw [if_pos h']
    go_enter Try.func54, Try.ntmps54
    go_wp2
    go_ret
    exact ⟨rfl, rfl⟩
  · rw [if_neg h']
    go_enter Try.func54, Try.ntmps54
    go_wp2
    go_ret
    exact ⟨rfl, rfl⟩
theorem refcompare_same (w : World) (n : Int) (xs ys : List Nat) (hx : Byt xs) (hy : Byt ys) (hlx : xs.length ≤ 1000000) (hly : ys.length ≤ 1000000) :
    Calls Try.prog 54 #[.int .i64 n, .string (str xs), .int .i64 n, .string (str ys)] w fun e w' => e = .returned (.int .i64 (cmpL xs ys)) ∧ ∃ n, w' = w.drewN n := by
  have hsx := str_size xs
  have hsy := str_size ys
  obtain ⟨r, HR⟩ : ∃ r, Hid (r = cmpL xs ys) := ⟨_, rfl⟩
  rw [← HR.out]
  go_enter Try.func54, Try.ntmps54
  go_wp2
  go_loopw [9] (fun i wr => ∃ k : Nat, k ≤ xs.length ∧ k ≤ ys.length ∧ i = .int .i64 k ∧ Hid (xs.take k = ys.take k) ∧ ∃ n, wr = w.drewN n) (fun i _ => xs.length - (intOf i).toNat)
  case atStart => exact ⟨0, by omega, by omega, rfl, rfl, 0, rfl⟩
  case round =>
    obtain ⟨k, hk, hk', rfl, HE, N, rfl⟩ := hrel
    by_cases h1 : k < xs.length
    · have h1i : (k : Int) < xs.length := by omega
      by_cases h2 : k < ys.length
      · have h2i : (k : Int) < ys.length := by omega
        obtain ⟨x, hxk⟩ : ∃ b, xs[k]? = some b := ⟨xs[k]'(by omega), List.getElem?_eq_getElem _⟩
        obtain ⟨y, hyk⟩ : ∃ b, ys[k]? = some b := ⟨ys[k]'(by omega), List.getElem?_eq_getElem _⟩
        obtain ⟨hsz, hget⟩ := str_get hxk hx
        obtain ⟨hsz', hget'⟩ := str_get hyk hy
        have HX := hid hxk
        have HY := hid hyk
        clear hxk hyk
        by_cases hxy : x = y
        · go_wp2
          go_quiet (fail)
          go_wp2
          go_roundw
          case rel => exact ⟨k + 1, by omega, by omega, by go_num, take_snoc_eq HE.out HX.out (hxy ▸ HY.out), _, rfl⟩
          case measure => simp [intOf]; omega
        · by_cases hlt : x < y
          · have HL := hid (cmpL_lt (cmpL_at HX.out HY.out HE.out hlt))
            go_wp2
            go_quiet (fail)
            go_wp2
            go_quiet (fail)
            go_wp2
            go_ret
            exact ⟨by rw [HR.out, HL.out]; rfl, _, by simp only [World.drewN_drewN]; rfl⟩
          · have HL := hid (cmpL_of_gt (cmpL_at HY.out HX.out HE.out.symm (by omega)))
            go_wp2
            go_quiet (fail)
            go_wp2
            go_quiet (fail)
            go_wp2
            go_ret
            exact ⟨by rw [HR.out, HL.out]; rfl, _, by simp only [World.drewN_drewN]; rfl⟩
      · have hke : k = ys.length := by omega
        have h2i : ¬ (k : Int) < ys.length := by omega
        have HL := hid (cmpL_of_gt (cmpL_short (a := ys) (b := xs) (by omega) (by rw [← hke, HE.out, List.take_of_length_le (by omega)])))
        have h3 : (ys.length : Int) < xs.length := by omega
        go_wp2
        go_ret
        exact ⟨by rw [HR.out, HL.out]; rfl, _, rfl⟩
    · have hke : k = xs.length := by omega
      have h1i : ¬ (k : Int) < xs.length := by omega
      by_cases h2 : xs.length < ys.length
      · have HL := hid (cmpL_lt (cmpL_short (a := xs) (b := ys) h2 (by rw [← hke, ← HE.out, List.take_of_length_le (by omega)])))
        have h3 : (xs.length : Int) < ys.length := by omega
        go_wp2
        go_ret
        exact ⟨by rw [HR.out, HL.out]; rfl, _, rfl⟩
      · have he : xs = ys := by
          have := HE.out
          rwa [List.take_of_length_le (by omega), List.take_of_length_le (by omega)] at this
        have HL := hid (show cmpL xs ys = 0 by rw [he]; exact cmpL_eq ys)
        have h3 : (xs.length : Int) = ys.length := by rw [he]
        clear he
        go_wp2
        go_ret
        exact ⟨by rw [HR.out, HL.out]; rfl, _, rfl⟩
theorem refcompare_any (w : World) (n m : Int) (xs ys : List Nat) (hx : Byt xs) (hy : Byt ys) (hlx : xs.length ≤ 1000000) (hly : ys.length ≤ 1000000) :
    Calls Try.prog 54 #[.int .i64 n, .string (str xs), .int .i64 m, .string (str ys)] w fun e w' => e = .returned (.int .i64 (cmpE n xs m ys)) ∧ ∃ n, w' = w.drewN n := by
  by_cases h : n = m
  · subst h
    rw [show cmpE n xs n ys = cmpL xs ys by unfold cmpE; rw [if_neg (Int.lt_irrefl n), if_neg (Int.lt_irrefl n)]]
    exact refcompare_same w n xs ys hx hy hlx hly
  · refine (refcompare_no w n m _ _ h).mono ?_
    rintro e w' ⟨rfl, rfl⟩
    refine ⟨?_, 0, rfl⟩
    unfold cmpE
    by_cases h' : n < m
    · rw [if_pos h', if_pos h']
    · rw [if_neg h', if_neg h', if_pos (by omega)]
end Go.Proofs.Ytlnagdodnkhbmaa
