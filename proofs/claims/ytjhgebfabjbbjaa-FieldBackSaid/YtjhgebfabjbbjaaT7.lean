import Derived.Test.YtjhgebfabjbbjaaT6
namespace Go.Proofs.Ytjhgebfabjbbjaa
open Go.RowKit

/-- The outcomes of a text's reading. -/
theorem le_cast {a b : Nat} (h : a ≤ b) : (a : Int) ≤ b := by omega

set_option maxRecDepth 100000 in
theorem rtext0_form (w : World) (g : Nat) (m : Int) (xs : List Nat) (hR : Rd w g xs) (hb : Byt xs) (hno : NoGr xs) (hl : xs.length ≤ 1000000000000) :
    Calls Try.prog 34 #[.pointer (some ⟨g, 0, none⟩), .int .i64 m] w (Rds w g (.string ⟨#[]⟩) 11 xs) := by
  go_enter Try.func34, Try.ntmps34
  go_wp2_with fail
  refine (ruint0_form w g xs hR hb hno hl).mono ?_
  rintro e w' ⟨rfl, hq⟩
  have HQ := hid hq
  clear hq
  go_wp2
  go_ret2
  exact ⟨rfl, HQ.out⟩
set_option maxRecDepth 100000 in
theorem rtext0_range (w : World) (g : Nat) (m : Int) (N : Nat) (rest : List Nat) (hR : Rd w g (gr N ++ rest)) (hb : Byt rest) (hN : 9223372036854775808 ≤ N) (hM : N < 18446744073709551616) (hl : rest.length ≤ 1000000000000) :
    Calls Try.prog 34 #[.pointer (some ⟨g, 0, none⟩), .int .i64 m] w (Rds w g (.string ⟨#[]⟩) 10 rest) := by
  go_enter Try.func34, Try.ntmps34
  go_wp2_with fail
  refine (ruint0_range w g N rest hR hb hN hM hl).mono ?_
  rintro e w' ⟨rfl, hq⟩
  have HQ := hid hq
  clear hq
  go_wp2
  go_ret2
  exact ⟨rfl, HQ.out⟩
set_option maxRecDepth 100000 in
theorem rtext0_size (w : World) (g : Nat) (m : Int) (N : Nat) (rest : List Nat) (hR : Rd w g (gr N ++ rest)) (hb : Byt rest) (hN : N < 9223372036854775808) (hm : m < N) (hl : rest.length ≤ 1000000000000) :
    Calls Try.prog 34 #[.pointer (some ⟨g, 0, none⟩), .int .i64 m] w (Rds w g (.string ⟨#[]⟩) 23 rest) := by
  go_enter Try.func34, Try.ntmps34
  go_wp2_with fail
  refine (ruint0_ok w g N rest hR hb hN hl).mono ?_
  rintro e w' ⟨rfl, hq⟩
  have HQ := hid hq
  clear hq
  go_wp2
  go_ret2
  exact ⟨rfl, HQ.out⟩
set_option maxRecDepth 100000 in
theorem rtext0_short (w : World) (g : Nat) (m : Int) (N : Nat) (rest : List Nat) (hR : Rd w g (gr N ++ rest)) (hb : Byt rest) (hN : N < 9223372036854775808) (hm : (N : Int) ≤ m) (hs : rest.length < N) (hl : rest.length ≤ 1000000000000) :
    Calls Try.prog 34 #[.pointer (some ⟨g, 0, none⟩), .int .i64 m] w (Rds w g (.string ⟨#[]⟩) 11 rest) := by
  have hsz := hid (str_size rest)
  obtain ⟨s, HS⟩ : ∃ s, Hid (s = str rest) := ⟨_, rfl⟩
  have hlt : (s.size : Int) < N := by rw [HS.out, hsz.out]; omega
  go_enter Try.func34, Try.ntmps34
  go_wp2_with fail
  refine (ruint0_ok w g N rest hR hb hN hl).mono ?_
  rintro e w' ⟨rfl, hq⟩
  have hcell1 := One.cell hq.1
  rw [← HS.out] at hcell1
  have HQ := hid hq
  clear hq
  go_wp2
  go_ret2
  exact ⟨rfl, HQ.out⟩
set_option maxRecDepth 100000 in
theorem rtext0_ok (w : World) (g : Nat) (m : Int) (N : Nat) (rest : List Nat) (hR : Rd w g (gr N ++ rest)) (hb : Byt rest) (hN : N < 9223372036854775808) (hm : (N : Int) ≤ m) (hs : N ≤ rest.length) (hl : rest.length ≤ 1000000000000) :
    Calls Try.prog 34 #[.pointer (some ⟨g, 0, none⟩), .int .i64 m] w (Rds w g (.string (str (rest.take N))) 0 (rest.drop N)) := by
  have hsz := hid (str_size rest)
  have ht := hid (str_take rest N)
  have hd := hid (str_drop rest N)
  obtain ⟨s, HS⟩ : ∃ s, Hid (s = str rest) := ⟨_, rfl⟩
  have hle : N ≤ s.size := by rw [HS.out, hsz.out]; exact hs
  have hle' : (N : Int) ≤ s.size := by omega
  have hsm : s.size ≤ 1000000000000 := by rw [HS.out, hsz.out]; exact hl
  rw [← HS.out] at ht hd
  go_enter Try.func34, Try.ntmps34
  go_wp2_with fail
  refine (ruint0_ok w g N rest hR hb hN hl).mono ?_
  rintro e w' ⟨rfl, hr, hc⟩
  have hcell1 := One.cell hr
  have hfr1 := One.frozen hr
  rw [← HS.out] at hcell1
  have HR := hid hr
  have HC := hid hc
  clear hr hc hs hl
  go_wp2
  go_ret2
  refine ⟨by rw [← ht.out]; rfl, ?_⟩
  rw [hd.out]
  exact rd_back HR.out HC.out

set_option maxRecDepth 100000 in
theorem rtext1_form (w : World) (g : Nat) (m : Int) (a b : Nat) (hca : w.cell? ⟨a, 0, none⟩ = some (.pointer (some ⟨g, 0, none⟩))) (hcb : w.cell? ⟨b, 0, none⟩ = some (.int .i64 m)) (xs : List Nat) (hR : Rd w g xs) (hb : Byt xs) (hno : NoGr xs) (hl : xs.length ≤ 1000000000000) :
    Calls Try.prog 33 #[.pointer (some ⟨a, 0, none⟩), .pointer (some ⟨b, 0, none⟩)] w (Rds w g (.string ⟨#[]⟩) 11 xs) := by
  go_enter Try.func33, Try.ntmps33
  go_wp2_with fail
  refine (rtext0_form w g m xs hR hb hno hl).mono ?_
  rintro e w' ⟨rfl, hq⟩
  have HQ := hid hq
  clear hq
  go_wp2
  go_ret2
  exact ⟨rfl, HQ.out⟩
set_option maxRecDepth 100000 in
theorem rtext1_range (w : World) (g : Nat) (m : Int) (a b : Nat) (hca : w.cell? ⟨a, 0, none⟩ = some (.pointer (some ⟨g, 0, none⟩))) (hcb : w.cell? ⟨b, 0, none⟩ = some (.int .i64 m)) (N : Nat) (rest : List Nat) (hR : Rd w g (gr N ++ rest)) (hb : Byt rest) (hN : 9223372036854775808 ≤ N) (hM : N < 18446744073709551616) (hl : rest.length ≤ 1000000000000) :
    Calls Try.prog 33 #[.pointer (some ⟨a, 0, none⟩), .pointer (some ⟨b, 0, none⟩)] w (Rds w g (.string ⟨#[]⟩) 10 rest) := by
  go_enter Try.func33, Try.ntmps33
  go_wp2_with fail
  refine (rtext0_range w g m N rest hR hb hN hM hl).mono ?_
  rintro e w' ⟨rfl, hq⟩
  have HQ := hid hq
  clear hq
  go_wp2
  go_ret2
  exact ⟨rfl, HQ.out⟩
set_option maxRecDepth 100000 in
theorem rtext1_size (w : World) (g : Nat) (m : Int) (a b : Nat) (hca : w.cell? ⟨a, 0, none⟩ = some (.pointer (some ⟨g, 0, none⟩))) (hcb : w.cell? ⟨b, 0, none⟩ = some (.int .i64 m)) (N : Nat) (rest : List Nat) (hR : Rd w g (gr N ++ rest)) (hb : Byt rest) (hN : N < 9223372036854775808) (hm : m < N) (hl : rest.length ≤ 1000000000000) :
    Calls Try.prog 33 #[.pointer (some ⟨a, 0, none⟩), .pointer (some ⟨b, 0, none⟩)] w (Rds w g (.string ⟨#[]⟩) 23 rest) := by
  go_enter Try.func33, Try.ntmps33
  go_wp2_with fail
  refine (rtext0_size w g m N rest hR hb hN hm hl).mono ?_
  rintro e w' ⟨rfl, hq⟩
  have HQ := hid hq
  clear hq
  go_wp2
  go_ret2
  exact ⟨rfl, HQ.out⟩
set_option maxRecDepth 100000 in
theorem rtext1_short (w : World) (g : Nat) (m : Int) (a b : Nat) (hca : w.cell? ⟨a, 0, none⟩ = some (.pointer (some ⟨g, 0, none⟩))) (hcb : w.cell? ⟨b, 0, none⟩ = some (.int .i64 m)) (N : Nat) (rest : List Nat) (hR : Rd w g (gr N ++ rest)) (hb : Byt rest) (hN : N < 9223372036854775808) (hm : (N : Int) ≤ m) (hs : rest.length < N) (hl : rest.length ≤ 1000000000000) :
    Calls Try.prog 33 #[.pointer (some ⟨a, 0, none⟩), .pointer (some ⟨b, 0, none⟩)] w (Rds w g (.string ⟨#[]⟩) 11 rest) := by
  go_enter Try.func33, Try.ntmps33
  go_wp2_with fail
  refine (rtext0_short w g m N rest hR hb hN hm hs hl).mono ?_
  rintro e w' ⟨rfl, hq⟩
  have HQ := hid hq
  clear hq
  go_wp2
  go_ret2
  exact ⟨rfl, HQ.out⟩
set_option maxRecDepth 100000 in
theorem rtext1_ok (w : World) (g : Nat) (m : Int) (a b : Nat) (hca : w.cell? ⟨a, 0, none⟩ = some (.pointer (some ⟨g, 0, none⟩))) (hcb : w.cell? ⟨b, 0, none⟩ = some (.int .i64 m)) (N : Nat) (rest : List Nat) (hR : Rd w g (gr N ++ rest)) (hb : Byt rest) (hN : N < 9223372036854775808) (hm : (N : Int) ≤ m) (hs : N ≤ rest.length) (hl : rest.length ≤ 1000000000000) :
    Calls Try.prog 33 #[.pointer (some ⟨a, 0, none⟩), .pointer (some ⟨b, 0, none⟩)] w (Rds w g (.string (str (rest.take N))) 0 (rest.drop N)) := by
  go_enter Try.func33, Try.ntmps33
  go_wp2_with fail
  refine (rtext0_ok w g m N rest hR hb hN hm hs hl).mono ?_
  rintro e w' ⟨rfl, hq⟩
  have HQ := hid hq
  clear hq
  go_wp2
  go_ret2
  exact ⟨rfl, HQ.out⟩
end Go.Proofs.Ytjhgebfabjbbjaa
