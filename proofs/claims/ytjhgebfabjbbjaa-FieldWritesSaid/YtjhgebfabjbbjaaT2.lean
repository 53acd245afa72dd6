import Derived.Test.YtjhgebfabjbbjaaT1
namespace Go.Proofs.Ytjhgebfabjbbjaa
open Go.RowKit

theorem wr_new (w : World) : Wr (w.alloc (.cells #[.slice none 0 0] 28)) [w.heap.size] (.pointer (some ⟨w.heap.size, 0, none⟩)) [] :=
  ⟨w.heap.size, .slice none 0 0, rfl, One.new _ _ _, Own.nil _ _ _ _, rfl⟩
theorem Wr.ptr {w : World} {F : List Nat} {p : Value} {xs : List Nat} (h : Wr w F p xs) : ∃ g, p = .pointer (some ⟨g, 0, none⟩) := by
  obtain ⟨g, v, rfl, _⟩ := h; exact ⟨g, rfl⟩

/-- What a call that writes leaves. -/
def Wrote (w : World) (F : List Nat) (p : Value) (xs : List Nat) (c : Int) (e : Ending) (w' : World) : Prop :=
  e = .returned (.int .i64 c) ∧ ∃ F', Wr w' F' p xs ∧ Chg F w w' F'

set_option maxRecDepth 100000 in
theorem wuint (w : World) (F : List Nat) (p : Value) (xs : List Nat) (n : Nat) (hW : Wr w F p xs) (hn : n < 9223372036854775808) (hl : xs.length ≤ 1000000000000) :
    Calls Try.prog 11 #[p, .int .i64 n] w (Wrote w F p (xs ++ gr n) 0) := by
  obtain ⟨g, rfl⟩ := hW.ptr
  have H64 : Hid (n < 18446744073709551616) := by show _ < _; omega
  have hlo : 0 ≤ (n : Int) := by omega
  go_enter Try.func11, Try.ntmps11
  go_wp2_with fail
  refine (wgroups w F _ xs n hW H64.out hl).mono ?_
  rintro e w' ⟨rfl, hr⟩
  go_wp2
  go_ret
  exact ⟨rfl, hr⟩

theorem wuint_neg (w : World) (g : Nat) (n : Int) (hn : n < 0) :
    Calls Try.prog 11 #[.pointer (some ⟨g, 0, none⟩), .int .i64 n] w fun e w' => e = .returned (.int .i64 10) ∧ w = w' := by
  go_enter Try.func11, Try.ntmps11
  go_wp2
  go_ret
  exact ⟨rfl, rfl⟩
theorem wuint_nil (w : World) (n : Int) :
    Calls Try.prog 11 #[.pointer none, .int .i64 n] w fun e w' => e = .returned (.int .i64 2) ∧ w = w' := by
  go_enter Try.func11, Try.ntmps11
  go_wp2
  go_ret
  exact ⟨rfl, rfl⟩
theorem wint_nil (w : World) (n : Int) :
    Calls Try.prog 14 #[.pointer none, .int .i64 n] w fun e w' => e = .returned (.int .i64 2) ∧ w = w' := by
  go_enter Try.func14, Try.ntmps14
  go_wp2
  go_ret
  exact ⟨rfl, rfl⟩
theorem wtext_nil (w : World) (s : ByteArray) :
    Calls Try.prog 16 #[.pointer none, .string s] w fun e w' => e = .returned (.int .i64 2) ∧ w = w' := by
  go_enter Try.func16, Try.ntmps16
  go_wp2
  go_ret
  exact ⟨rfl, rfl⟩
theorem wtext_long (w : World) (g : Nat) (s : ByteArray) (hs : 65536 < s.size) :
    Calls Try.prog 16 #[.pointer (some ⟨g, 0, none⟩), .string s] w fun e w' => e = .returned (.int .i64 23) ∧ w = w' := by
  go_enter Try.func16, Try.ntmps16
  go_wp2
  go_ret
  exact ⟨rfl, rfl⟩
theorem wbytes_nil (w : World) :
    Calls Try.prog 18 #[.pointer none] w fun e w' => e = .returned (.slice none 0 0) ∧ w = w' := by
  go_enter Try.func18, Try.ntmps18
  go_wp2
  go_ret
  exact ⟨rfl, rfl⟩

set_option maxRecDepth 100000 in
theorem wint (w : World) (F : List Nat) (p : Value) (xs : List Nat) (n : Int) (hW : Wr w F p xs) (h1 : -9223372036854775808 ≤ n) (h2 : n ≤ 9223372036854775807) (hl : xs.length ≤ 1000000000000) :
    Calls Try.prog 14 #[p, .int .i64 n] w (Wrote w F p (xs ++ gr (zig n)) 0) := by
  obtain ⟨g, rfl⟩ := hW.ptr
  have H64 := hid (zig_lt h1 h2)
  by_cases hn : n < 0
  · obtain ⟨m, rfl⟩ : ∃ m : Nat, n = -1 - (m : Int) := ⟨(-1 - n).toNat, by omega⟩
    have hm : (m : Int) ≤ 9223372036854775807 := by omega
    have hz : zig (-1 - (m : Int)) = m * 2 + 1 := by rw [zig_neg (by omega)]; omega
    rw [hz] at H64 ⊢
    have e1 : -1 - (-1 - (m : Int)) = m := by omega
    have hcv : IntKind.u64.wrap (m : Int) = m := IntWalk.u64_in _ (by omega)
    have hcw : IntKind.u64.wrap ((m : Int) * 2) = (m : Int) * 2 := IntWalk.u64_in _ (by omega)
    clear hz
    go_enter Try.func14, Try.ntmps14
    go_wp2_with fail
    refine (wgroups w F _ xs (m * 2 + 1) hW H64.out hl).mono ?_
    rintro e w' ⟨rfl, hr⟩
    go_wp2
    go_ret
    exact ⟨rfl, hr⟩
  · obtain ⟨m, rfl⟩ : ∃ m : Nat, n = (m : Int) := ⟨n.toNat, by omega⟩
    have hm : (m : Int) ≤ 9223372036854775807 := by omega
    have hz : zig (m : Int) = m * 2 := by rw [zig_pos (by omega)]; omega
    rw [hz] at H64 ⊢
    have hlo : 0 ≤ (m : Int) := by omega
    clear hz
    go_enter Try.func14, Try.ntmps14
    go_wp2_with fail
    refine (wgroups w F _ xs (m * 2) hW H64.out hl).mono ?_
    rintro e w' ⟨rfl, hr⟩
    go_wp2
    go_ret
    exact ⟨rfl, hr⟩
end Go.Proofs.Ytjhgebfabjbbjaa
