import Derived.Test.YtjhgebfabjbbjaaT5
namespace Go.Proofs.Ytjhgebfabjbbjaa
open Go.RowKit

/-- What a call that reads leaves: what it answers, and what is left. -/
def Rds (w : World) (g : Nat) (v : Value) (c : Int) (rest : List Nat) (e : Ending) (w' : World) : Prop :=
  e = .returned (.tuple #[v, .int .i64 c]) ∧ Rd w' g rest ∧ Chg [g] w w' [g]
theorem rd_set {w : World} {g : Nat} {xs : List Nat} (h : Rd w g xs) (ys : List Nat) : Rd (w.setCell ⟨g, 0, none⟩ (.string (str ys))) g ys ∧ Chg [g] w (w.setCell ⟨g, 0, none⟩ (.string (str ys))) [g] :=
  ⟨One.set h _, (Chg.refl [g] w).setCell (p := ⟨g, 0, none⟩) List.mem_cons_self _⟩
theorem ret2_int {a b : Int} {c : Value} (h : a = b) : Ending.returned (.tuple #[.int .i64 a, c]) = .returned (.tuple #[.int .i64 b, c]) := by rw [h]

set_option maxRecDepth 100000 in
theorem ruint0_ok (w : World) (g : Nat) (N : Nat) (rest : List Nat) (hR : Rd w g (gr N ++ rest)) (hb : Byt rest) (hN : N < 9223372036854775808) (hl : rest.length ≤ 1000000000000) :
    Calls Try.prog 30 #[.pointer (some ⟨g, 0, none⟩)] w (Rds w g (.int .i64 N) 0 rest) := by
  have HQ := hid (rd_set hR rest)
  have H64 : Hid (N < 18446744073709551616) := by show _ < _; omega
  have hle : (N : Int) ≤ 9223372036854775807 := by omega
  have hlo : 0 ≤ (N : Int) := by omega
  go_enter Try.func30, Try.ntmps30
  go_wp2_with fail
  refine (rgroups_yes w g N rest hR hb H64.out hl).mono ?_
  rintro e w' ⟨rfl, rfl⟩
  go_wp2
  go_ret2
  exact ⟨rfl, HQ.out⟩
set_option maxRecDepth 100000 in
theorem ruint0_range (w : World) (g : Nat) (N : Nat) (rest : List Nat) (hR : Rd w g (gr N ++ rest)) (hb : Byt rest) (hN : 9223372036854775808 ≤ N) (hM : N < 18446744073709551616) (hl : rest.length ≤ 1000000000000) :
    Calls Try.prog 30 #[.pointer (some ⟨g, 0, none⟩)] w (Rds w g (.int .i64 0) 10 rest) := by
  have HQ := hid (rd_set hR rest)
  have H64 := hid hM
  have hle : 9223372036854775807 < (N : Int) := by omega
  clear hN hM
  go_enter Try.func30, Try.ntmps30
  go_wp2_with fail
  refine (rgroups_yes w g N rest hR hb H64.out hl).mono ?_
  rintro e w' ⟨rfl, rfl⟩
  go_wp2
  go_ret2
  exact ⟨rfl, HQ.out⟩
set_option maxRecDepth 100000 in
theorem ruint0_form (w : World) (g : Nat) (xs : List Nat) (hR : Rd w g xs) (hb : Byt xs) (hno : NoGr xs) (hl : xs.length ≤ 1000000000000) :
    Calls Try.prog 30 #[.pointer (some ⟨g, 0, none⟩)] w (Rds w g (.int .i64 0) 11 xs) := by
  have HQ := hid hR
  go_enter Try.func30, Try.ntmps30
  go_wp2_with fail
  refine (rgroups_no w g xs hR hb hno hl).mono ?_
  rintro e w' ⟨rfl, rfl⟩
  go_wp2
  go_ret2
  exact ⟨rfl, HQ.out, Chg.refl _ _⟩

/-- The number that was written by Int. -/
def zag (N : Nat) : Int := if N % 2 = 1 then -1 - ((N / 2 : Nat) : Int) else ((N / 2 : Nat) : Int)
theorem zag_zig (n : Int) : zag (zig n) = n := by
  unfold zag
  by_cases h : n < 0
  · have := zig_odd h; rw [if_pos this.1]; exact this.2
  · have := zig_even (n := n) (by omega); rw [if_neg (by omega)]; exact this.2
set_option maxRecDepth 100000 in
theorem rint0_ok (w : World) (g : Nat) (N : Nat) (rest : List Nat) (hR : Rd w g (gr N ++ rest)) (hb : Byt rest) (hN : N < 18446744073709551616) (hl : rest.length ≤ 1000000000000) :
    Calls Try.prog 31 #[.pointer (some ⟨g, 0, none⟩)] w (Rds w g (.int .i64 (zag N)) 0 rest) := by
  have HQ := hid (rd_set hR rest)
  have H64 := hid hN
  have hh : (N : Int) / 2 ≤ 9223372036854775807 := by omega
  have hlo : 0 ≤ (N : Int) / 2 := by omega
  have hlo0 : 0 ≤ (N : Int) := by omega
  have hlo1 : (N : Int) ≤ 18446744073709551615 := by omega
  clear hN
  by_cases hp : N % 2 = 1
  · have HZ : Hid (zag N = -1 - (N : Int) / 2) := by show _ = _; unfold zag; rw [if_pos hp]; omega
    have h2 : (N : Int) % 2 = 1 := by omega
    clear hp
    go_enter Try.func31, Try.ntmps31
    go_wp2_with fail
    refine (rgroups_yes w g N rest hR hb H64.out hl).mono ?_
    rintro e w' ⟨rfl, rfl⟩
    go_wp2
    go_ret2
    exact ⟨ret2_int HZ.out.symm, HQ.out⟩
  · have HZ : Hid (zag N = (N : Int) / 2) := by show _ = _; unfold zag; rw [if_neg hp]; omega
    have h2 : (N : Int) % 2 = 0 := by omega
    clear hp
    go_enter Try.func31, Try.ntmps31
    go_wp2_with fail
    refine (rgroups_yes w g N rest hR hb H64.out hl).mono ?_
    rintro e w' ⟨rfl, rfl⟩
    go_wp2
    go_ret2
    exact ⟨ret2_int HZ.out.symm, HQ.out⟩
set_option maxRecDepth 100000 in
theorem rint0_form (w : World) (g : Nat) (xs : List Nat) (hR : Rd w g xs) (hb : Byt xs) (hno : NoGr xs) (hl : xs.length ≤ 1000000000000) :
    Calls Try.prog 31 #[.pointer (some ⟨g, 0, none⟩)] w (Rds w g (.int .i64 0) 11 xs) := by
  have HQ := hid hR
  go_enter Try.func31, Try.ntmps31
  go_wp2_with fail
  refine (rgroups_no w g xs hR hb hno hl).mono ?_
  rintro e w' ⟨rfl, rfl⟩
  go_wp2
  go_ret2
  exact ⟨rfl, HQ.out, Chg.refl _ _⟩

theorem hmf (fn : Fn) (first cap : Array Value) (w : World) : (Instr.makeFunc fn first cap).run Try.prog w = .ok (.func fn first cap) w := rfl

theorem rd_back {w w1 : World} {g : Nat} {xs rest : List Nat} (h : Rd w1 g rest) (hc : Chg [g] w w1 [g]) : Rd (w1.setCell ⟨g, 0, none⟩ (.string (str xs))) g xs ∧ Chg [g] w (w1.setCell ⟨g, 0, none⟩ (.string (str xs))) [g] :=
  ⟨One.set h _, hc.setCell (p := ⟨g, 0, none⟩) List.mem_cons_self _⟩

theorem whole_uint_ok (w : World) (g : Nat) (N : Nat) (rest : List Nat) (hR : Rd w g (gr N ++ rest)) (hb : Byt rest) (hN : N < 9223372036854775808) (hl : rest.length ≤ 1000000000000) :
    Calls Try.prog 29 #[.pointer (some ⟨g, 0, none⟩), .func (.func 30) #[.pointer (some ⟨g, 0, none⟩)] #[]] w (Rds w g (.int .i64 N) 0 rest) := by
  have hcell := One.cell hR
  go_enter Try.func29, Try.ntmps29
  go_wp2_with fail
  refine (ruint0_ok w g N rest hR hb hN hl).mono ?_
  rintro e w' ⟨rfl, hq⟩
  have HQ := hid hq
  clear hq
  go_wp2
  go_ret2
  exact ⟨rfl, HQ.out⟩
theorem whole_uint_range (w : World) (g : Nat) (N : Nat) (rest : List Nat) (hR : Rd w g (gr N ++ rest)) (hb : Byt rest) (hN : 9223372036854775808 ≤ N) (hM : N < 18446744073709551616) (hl : rest.length ≤ 1000000000000) :
    Calls Try.prog 29 #[.pointer (some ⟨g, 0, none⟩), .func (.func 30) #[.pointer (some ⟨g, 0, none⟩)] #[]] w (Rds w g (.int .i64 0) 10 (gr N ++ rest)) := by
  have hcell := One.cell hR
  go_enter Try.func29, Try.ntmps29
  go_wp2_with fail
  refine (ruint0_range w g N rest hR hb hN hM hl).mono ?_
  rintro e w' ⟨rfl, hr, hc⟩
  have hcell1 := One.cell hr
  have hfr1 := One.frozen hr
  have HR := hid hr
  have HC := hid hc
  clear hr hc
  go_wp2
  go_ret2
  exact ⟨rfl, rd_back HR.out HC.out⟩
theorem whole_uint_form (w : World) (g : Nat) (xs : List Nat) (hR : Rd w g xs) (hb : Byt xs) (hno : NoGr xs) (hl : xs.length ≤ 1000000000000) :
    Calls Try.prog 29 #[.pointer (some ⟨g, 0, none⟩), .func (.func 30) #[.pointer (some ⟨g, 0, none⟩)] #[]] w (Rds w g (.int .i64 0) 11 xs) := by
  have hcell := One.cell hR
  go_enter Try.func29, Try.ntmps29
  go_wp2_with fail
  refine (ruint0_form w g xs hR hb hno hl).mono ?_
  rintro e w' ⟨rfl, hr, hc⟩
  have hcell1 := One.cell hr
  have hfr1 := One.frozen hr
  have HR := hid hr
  have HC := hid hc
  clear hr hc
  go_wp2
  go_ret2
  exact ⟨rfl, rd_back HR.out HC.out⟩
theorem whole_int_ok (w : World) (g : Nat) (N : Nat) (rest : List Nat) (hR : Rd w g (gr N ++ rest)) (hb : Byt rest) (hN : N < 18446744073709551616) (hl : rest.length ≤ 1000000000000) :
    Calls Try.prog 29 #[.pointer (some ⟨g, 0, none⟩), .func (.func 31) #[.pointer (some ⟨g, 0, none⟩)] #[]] w (Rds w g (.int .i64 (zag N)) 0 rest) := by
  have hcell := One.cell hR
  go_enter Try.func29, Try.ntmps29
  go_wp2_with fail
  refine (rint0_ok w g N rest hR hb hN hl).mono ?_
  rintro e w' ⟨rfl, hq⟩
  have HQ := hid hq
  clear hq
  go_wp2
  go_ret2
  exact ⟨rfl, HQ.out⟩
theorem whole_int_form (w : World) (g : Nat) (xs : List Nat) (hR : Rd w g xs) (hb : Byt xs) (hno : NoGr xs) (hl : xs.length ≤ 1000000000000) :
    Calls Try.prog 29 #[.pointer (some ⟨g, 0, none⟩), .func (.func 31) #[.pointer (some ⟨g, 0, none⟩)] #[]] w (Rds w g (.int .i64 0) 11 xs) := by
  have hcell := One.cell hR
  go_enter Try.func29, Try.ntmps29
  go_wp2_with fail
  refine (rint0_form w g xs hR hb hno hl).mono ?_
  rintro e w' ⟨rfl, hr, hc⟩
  have hcell1 := One.cell hr
  have hfr1 := One.frozen hr
  have HR := hid hr
  have HC := hid hc
  clear hr hc
  go_wp2
  go_ret2
  exact ⟨rfl, rd_back HR.out HC.out⟩
theorem ruint_ok (w : World) (g : Nat) (N : Nat) (rest : List Nat) (hR : Rd w g (gr N ++ rest)) (hb : Byt rest) (hN : N < 9223372036854775808) (hl : rest.length ≤ 1000000000000) :
    Calls Try.prog 21 #[.pointer (some ⟨g, 0, none⟩)] w (Rds w g (.int .i64 N) 0 rest) := by
  have hmf := hmf
  go_enter Try.func21, Try.ntmps21
  go_wp2_with fail
  refine (whole_uint_ok w g N rest hR hb hN hl).mono ?_
  rintro e w' ⟨rfl, hq⟩
  have HQ := hid hq
  clear hq
  go_wp2
  go_ret2
  exact ⟨rfl, HQ.out⟩
theorem ruint_range (w : World) (g : Nat) (N : Nat) (rest : List Nat) (hR : Rd w g (gr N ++ rest)) (hb : Byt rest) (hN : 9223372036854775808 ≤ N) (hM : N < 18446744073709551616) (hl : rest.length ≤ 1000000000000) :
    Calls Try.prog 21 #[.pointer (some ⟨g, 0, none⟩)] w (Rds w g (.int .i64 0) 10 (gr N ++ rest)) := by
  have hmf := hmf
  go_enter Try.func21, Try.ntmps21
  go_wp2_with fail
  refine (whole_uint_range w g N rest hR hb hN hM hl).mono ?_
  rintro e w' ⟨rfl, hq⟩
  have HQ := hid hq
  clear hq
  go_wp2
  go_ret2
  exact ⟨rfl, HQ.out⟩
theorem ruint_form (w : World) (g : Nat) (xs : List Nat) (hR : Rd w g xs) (hb : Byt xs) (hno : NoGr xs) (hl : xs.length ≤ 1000000000000) :
    Calls Try.prog 21 #[.pointer (some ⟨g, 0, none⟩)] w (Rds w g (.int .i64 0) 11 xs) := by
  have hmf := hmf
  go_enter Try.func21, Try.ntmps21
  go_wp2_with fail
  refine (whole_uint_form w g xs hR hb hno hl).mono ?_
  rintro e w' ⟨rfl, hq⟩
  have HQ := hid hq
  clear hq
  go_wp2
  go_ret2
  exact ⟨rfl, HQ.out⟩
theorem rint_ok (w : World) (g : Nat) (N : Nat) (rest : List Nat) (hR : Rd w g (gr N ++ rest)) (hb : Byt rest) (hN : N < 18446744073709551616) (hl : rest.length ≤ 1000000000000) :
    Calls Try.prog 22 #[.pointer (some ⟨g, 0, none⟩)] w (Rds w g (.int .i64 (zag N)) 0 rest) := by
  have hmf := hmf
  go_enter Try.func22, Try.ntmps22
  go_wp2_with fail
  refine (whole_int_ok w g N rest hR hb hN hl).mono ?_
  rintro e w' ⟨rfl, hq⟩
  have HQ := hid hq
  clear hq
  go_wp2
  go_ret2
  exact ⟨rfl, HQ.out⟩
theorem rint_form (w : World) (g : Nat) (xs : List Nat) (hR : Rd w g xs) (hb : Byt xs) (hno : NoGr xs) (hl : xs.length ≤ 1000000000000) :
    Calls Try.prog 22 #[.pointer (some ⟨g, 0, none⟩)] w (Rds w g (.int .i64 0) 11 xs) := by
  have hmf := hmf
  go_enter Try.func22, Try.ntmps22
  go_wp2_with fail
  refine (whole_int_form w g xs hR hb hno hl).mono ?_
  rintro e w' ⟨rfl, hq⟩
  have HQ := hid hq
  clear hq
  go_wp2
  go_ret2
  exact ⟨rfl, HQ.out⟩
theorem whole_nil (w : World) (K : Nat) : Calls Try.prog 29 #[.pointer none, .func (.func K) #[.pointer none] #[]] w fun e w' => e = .returned (.tuple #[.int .i64 0, .int .i64 2]) ∧ w = w' := by
  go_enter Try.func29, Try.ntmps29
  go_wp2
  go_ret2
  exact ⟨rfl, rfl⟩
theorem ruint_nil (w : World) : Calls Try.prog 21 #[.pointer none] w fun e w' => e = .returned (.tuple #[.int .i64 0, .int .i64 2]) ∧ w = w' := by
  have hmf := hmf
  go_enter Try.func21, Try.ntmps21
  go_wp2_with fail
  refine (whole_nil w 30).mono ?_
  rintro e w' ⟨rfl, rfl⟩
  go_wp2
  go_ret2
  exact ⟨rfl, rfl⟩
theorem rint_nil (w : World) : Calls Try.prog 22 #[.pointer none] w fun e w' => e = .returned (.tuple #[.int .i64 0, .int .i64 2]) ∧ w = w' := by
  have hmf := hmf
  go_enter Try.func22, Try.ntmps22
  go_wp2_with fail
  refine (whole_nil w 31).mono ?_
  rintro e w' ⟨rfl, rfl⟩
  go_wp2
  go_ret2
  exact ⟨rfl, rfl⟩

theorem rleft (w : World) (g : Nat) (xs : List Nat) (hR : Rd w g xs) : Calls Try.prog 24 #[.pointer (some ⟨g, 0, none⟩)] w fun e w' => e = .returned (.int .i64 xs.length) ∧ w = w' := by
  have hcell := One.cell hR
  have hsz := str_size xs
  obtain ⟨s, HS⟩ : ∃ s, Hid (s = str xs) := ⟨_, rfl⟩
  rw [← HS.out] at hcell hsz
  have HZ := hid hsz
  clear hsz
  go_enter Try.func24, Try.ntmps24
  go_wp2
  go_ret
  exact ⟨ret_nat HZ.out, rfl⟩
theorem rleft_nil (w : World) : Calls Try.prog 24 #[.pointer none] w fun e w' => e = .returned (.int .i64 0) ∧ w = w' := by
  go_enter Try.func24, Try.ntmps24
  go_wp2
  go_ret
  exact ⟨rfl, rfl⟩
theorem read_any (w : World) (v : Value) (xs : List Nat) (hs : Sl .u8 w v xs) :
    Calls Try.prog 19 #[v] w fun e w' => e = .returned (.pointer (some ⟨w.heap.size, 0, none⟩)) ∧ w' = w.alloc (.cells #[.string (str xs)] 57) := by
  have h1 := hs.str (P := Try.prog) 26 5 9 Try.underlying26 Try.underlying5 Try.underlying9
  generalize str xs = S at h1
  go_enter Try.func19, Try.ntmps19
  go_wp2
  go_ret
  exact ⟨rfl, rfl⟩
theorem rd_new (w : World) (xs : List Nat) : Rd (w.alloc (.cells #[.string (str xs)] 57)) w.heap.size xs := One.new _ _ _
end Go.Proofs.Ytjhgebfabjbbjaa
