import Derived.Test.YtjhgebfabjbbjaaT7
namespace Go.Proofs.Ytjhgebfabjbbjaa
open Go.RowKit

set_option maxRecDepth 100000 in
theorem whole_text_form (w : World) (g : Nat) (m : Int) (a b : Nat) (hca : w.cell? ⟨a, 0, none⟩ = some (.pointer (some ⟨g, 0, none⟩))) (hcb : w.cell? ⟨b, 0, none⟩ = some (.int .i64 m)) (xs : List Nat) (hR : Rd w g xs) (hb : Byt xs) (hno : NoGr xs) (hl : xs.length ≤ 1000000000000) :
    Calls Try.prog 32 #[.pointer (some ⟨g, 0, none⟩), (.func (.func 33) #[] #[.pointer (some ⟨a, 0, none⟩), .pointer (some ⟨b, 0, none⟩)])] w (Rds w g (.string ⟨#[]⟩) 11 xs) := by
  have hcell := One.cell hR
  go_enter Try.func32, Try.ntmps32
  go_wp2_with fail
  refine (rtext1_form w g m a b hca hcb xs hR hb hno hl).mono ?_
  rintro e w' ⟨rfl, hq⟩
  have hcell1 := One.cell hq.1
  have hfr1 := One.frozen hq.1
  have HQ := hid hq
  clear hq
  go_wp2
  go_ret2
  exact ⟨rfl, rd_back HQ.out.1 HQ.out.2⟩
set_option maxRecDepth 100000 in
theorem whole_text_range (w : World) (g : Nat) (m : Int) (a b : Nat) (hca : w.cell? ⟨a, 0, none⟩ = some (.pointer (some ⟨g, 0, none⟩))) (hcb : w.cell? ⟨b, 0, none⟩ = some (.int .i64 m)) (N : Nat) (rest : List Nat) (hR : Rd w g (gr N ++ rest)) (hb : Byt rest) (hN : 9223372036854775808 ≤ N) (hM : N < 18446744073709551616) (hl : rest.length ≤ 1000000000000) :
    Calls Try.prog 32 #[.pointer (some ⟨g, 0, none⟩), (.func (.func 33) #[] #[.pointer (some ⟨a, 0, none⟩), .pointer (some ⟨b, 0, none⟩)])] w (Rds w g (.string ⟨#[]⟩) 10 (gr N ++ rest)) := by
  have hcell := One.cell hR
  go_enter Try.func32, Try.ntmps32
  go_wp2_with fail
  refine (rtext1_range w g m a b hca hcb N rest hR hb hN hM hl).mono ?_
  rintro e w' ⟨rfl, hq⟩
  have hcell1 := One.cell hq.1
  have hfr1 := One.frozen hq.1
  have HQ := hid hq
  clear hq
  go_wp2
  go_ret2
  exact ⟨rfl, rd_back HQ.out.1 HQ.out.2⟩
set_option maxRecDepth 100000 in
theorem whole_text_size (w : World) (g : Nat) (m : Int) (a b : Nat) (hca : w.cell? ⟨a, 0, none⟩ = some (.pointer (some ⟨g, 0, none⟩))) (hcb : w.cell? ⟨b, 0, none⟩ = some (.int .i64 m)) (N : Nat) (rest : List Nat) (hR : Rd w g (gr N ++ rest)) (hb : Byt rest) (hN : N < 9223372036854775808) (hm : m < N) (hl : rest.length ≤ 1000000000000) :
    Calls Try.prog 32 #[.pointer (some ⟨g, 0, none⟩), (.func (.func 33) #[] #[.pointer (some ⟨a, 0, none⟩), .pointer (some ⟨b, 0, none⟩)])] w (Rds w g (.string ⟨#[]⟩) 23 (gr N ++ rest)) := by
  have hcell := One.cell hR
  go_enter Try.func32, Try.ntmps32
  go_wp2_with fail
  refine (rtext1_size w g m a b hca hcb N rest hR hb hN hm hl).mono ?_
  rintro e w' ⟨rfl, hq⟩
  have hcell1 := One.cell hq.1
  have hfr1 := One.frozen hq.1
  have HQ := hid hq
  clear hq
  go_wp2
  go_ret2
  exact ⟨rfl, rd_back HQ.out.1 HQ.out.2⟩
set_option maxRecDepth 100000 in
theorem whole_text_short (w : World) (g : Nat) (m : Int) (a b : Nat) (hca : w.cell? ⟨a, 0, none⟩ = some (.pointer (some ⟨g, 0, none⟩))) (hcb : w.cell? ⟨b, 0, none⟩ = some (.int .i64 m)) (N : Nat) (rest : List Nat) (hR : Rd w g (gr N ++ rest)) (hb : Byt rest) (hN : N < 9223372036854775808) (hm : (N : Int) ≤ m) (hs : rest.length < N) (hl : rest.length ≤ 1000000000000) :
    Calls Try.prog 32 #[.pointer (some ⟨g, 0, none⟩), (.func (.func 33) #[] #[.pointer (some ⟨a, 0, none⟩), .pointer (some ⟨b, 0, none⟩)])] w (Rds w g (.string ⟨#[]⟩) 11 (gr N ++ rest)) := by
  have hcell := One.cell hR
  go_enter Try.func32, Try.ntmps32
  go_wp2_with fail
  refine (rtext1_short w g m a b hca hcb N rest hR hb hN hm hs hl).mono ?_
  rintro e w' ⟨rfl, hq⟩
  have hcell1 := One.cell hq.1
  have hfr1 := One.frozen hq.1
  have HQ := hid hq
  clear hq
  go_wp2
  go_ret2
  exact ⟨rfl, rd_back HQ.out.1 HQ.out.2⟩
set_option maxRecDepth 100000 in
theorem whole_text_ok (w : World) (g : Nat) (m : Int) (a b : Nat) (hca : w.cell? ⟨a, 0, none⟩ = some (.pointer (some ⟨g, 0, none⟩))) (hcb : w.cell? ⟨b, 0, none⟩ = some (.int .i64 m)) (N : Nat) (rest : List Nat) (hR : Rd w g (gr N ++ rest)) (hb : Byt rest) (hN : N < 9223372036854775808) (hm : (N : Int) ≤ m) (hs : N ≤ rest.length) (hl : rest.length ≤ 1000000000000) :
    Calls Try.prog 32 #[.pointer (some ⟨g, 0, none⟩), (.func (.func 33) #[] #[.pointer (some ⟨a, 0, none⟩), .pointer (some ⟨b, 0, none⟩)])] w (Rds w g (.string (str (rest.take N))) 0 (rest.drop N)) := by
  have hcell := One.cell hR
  go_enter Try.func32, Try.ntmps32
  go_wp2_with fail
  refine (rtext1_ok w g m a b hca hcb N rest hR hb hN hm hs hl).mono ?_
  rintro e w' ⟨rfl, hq⟩
  have HQ := hid hq
  clear hq
  go_wp2
  go_ret2
  exact ⟨rfl, HQ.out⟩
theorem text_a (w : World) (g : Nat) (m : Int) : ((w.alloc (.cells #[.pointer (some ⟨g, 0, none⟩)] 38)).alloc (.cells #[.int .i64 m] 3)).cell? ⟨w.heap.size, 0, none⟩ = some (.pointer (some ⟨g, 0, none⟩)) :=
  One.cell (One.alloc (One.new w 38 _) _)
theorem text_b (w : World) (g : Nat) (m : Int) : ((w.alloc (.cells #[.pointer (some ⟨g, 0, none⟩)] 38)).alloc (.cells #[.int .i64 m] 3)).cell? ⟨w.heap.size + 1, 0, none⟩ = some (.int .i64 m) := by
  have h := One.cell (One.new (w.alloc (.cells #[.pointer (some ⟨g, 0, none⟩)] 38)) 3 (.int .i64 m))
  rw [show (w.alloc (.cells #[.pointer (some ⟨g, 0, none⟩)] 38)).heap.size = w.heap.size + 1 by simp] at h
  exact h
set_option maxRecDepth 100000 in
theorem rtext_form (w : World) (g : Nat) (m : Int) (xs : List Nat) (hR : Rd w g xs) (hb : Byt xs) (hno : NoGr xs) (hl : xs.length ≤ 1000000000000) :
    Calls Try.prog 23 #[.pointer (some ⟨g, 0, none⟩), .int .i64 m] w (Rds w g (.string ⟨#[]⟩) 11 xs) := by
  have hmf := hmf
  have hR2 := (One.alloc (One.alloc hR (.cells #[.pointer (some ⟨g, 0, none⟩)] 38)) (.cells #[.int .i64 m] 3))
  have hca := text_a w g m
  have hcb := text_b w g m
  have HR2 := hid hR2
  have HCA := hid hca
  have HCB := hid hcb
  clear hR2 hcb
  go_enter Try.func23, Try.ntmps23
  go_wp2_with fail
  refine (whole_text_form _ g m w.heap.size (w.heap.size + 1) HCA.out HCB.out xs HR2.out hb hno hl).mono ?_
  rintro e w' ⟨rfl, hq, hc⟩
  have HQ := hid hq
  have HC := hid hc
  clear hq hc hca
  go_wp2
  go_ret2
  exact ⟨rfl, HQ.out, (((Chg.refl _ _).alloc _).alloc _).trans HC.out⟩
set_option maxRecDepth 100000 in
theorem rtext_range (w : World) (g : Nat) (m : Int) (N : Nat) (rest : List Nat) (hR : Rd w g (gr N ++ rest)) (hb : Byt rest) (hN : 9223372036854775808 ≤ N) (hM : N < 18446744073709551616) (hl : rest.length ≤ 1000000000000) :
    Calls Try.prog 23 #[.pointer (some ⟨g, 0, none⟩), .int .i64 m] w (Rds w g (.string ⟨#[]⟩) 10 (gr N ++ rest)) := by
  have hmf := hmf
  have hR2 := (One.alloc (One.alloc hR (.cells #[.pointer (some ⟨g, 0, none⟩)] 38)) (.cells #[.int .i64 m] 3))
  have hca := text_a w g m
  have hcb := text_b w g m
  have HR2 := hid hR2
  have HCA := hid hca
  have HCB := hid hcb
  clear hR2 hcb
  go_enter Try.func23, Try.ntmps23
  go_wp2_with fail
  refine (whole_text_range _ g m w.heap.size (w.heap.size + 1) HCA.out HCB.out N rest HR2.out hb hN hM hl).mono ?_
  rintro e w' ⟨rfl, hq, hc⟩
  have HQ := hid hq
  have HC := hid hc
  clear hq hc hca
  go_wp2
  go_ret2
  exact ⟨rfl, HQ.out, (((Chg.refl _ _).alloc _).alloc _).trans HC.out⟩
set_option maxRecDepth 100000 in
theorem rtext_size (w : World) (g : Nat) (m : Int) (N : Nat) (rest : List Nat) (hR : Rd w g (gr N ++ rest)) (hb : Byt rest) (hN : N < 9223372036854775808) (hm : m < N) (hl : rest.length ≤ 1000000000000) :
    Calls Try.prog 23 #[.pointer (some ⟨g, 0, none⟩), .int .i64 m] w (Rds w g (.string ⟨#[]⟩) 23 (gr N ++ rest)) := by
  have hmf := hmf
  have hR2 := (One.alloc (One.alloc hR (.cells #[.pointer (some ⟨g, 0, none⟩)] 38)) (.cells #[.int .i64 m] 3))
  have hca := text_a w g m
  have hcb := text_b w g m
  have HR2 := hid hR2
  have HCA := hid hca
  have HCB := hid hcb
  clear hR2 hcb
  go_enter Try.func23, Try.ntmps23
  go_wp2_with fail
  refine (whole_text_size _ g m w.heap.size (w.heap.size + 1) HCA.out HCB.out N rest HR2.out hb hN hm hl).mono ?_
  rintro e w' ⟨rfl, hq, hc⟩
  have HQ := hid hq
  have HC := hid hc
  clear hq hc hca
  go_wp2
  go_ret2
  exact ⟨rfl, HQ.out, (((Chg.refl _ _).alloc _).alloc _).trans HC.out⟩
set_option maxRecDepth 100000 in
theorem rtext_short (w : World) (g : Nat) (m : Int) (N : Nat) (rest : List Nat) (hR : Rd w g (gr N ++ rest)) (hb : Byt rest) (hN : N < 9223372036854775808) (hm : (N : Int) ≤ m) (hs : rest.length < N) (hl : rest.length ≤ 1000000000000) :
    Calls Try.prog 23 #[.pointer (some ⟨g, 0, none⟩), .int .i64 m] w (Rds w g (.string ⟨#[]⟩) 11 (gr N ++ rest)) := by
  have hmf := hmf
  have hR2 := (One.alloc (One.alloc hR (.cells #[.pointer (some ⟨g, 0, none⟩)] 38)) (.cells #[.int .i64 m] 3))
  have hca := text_a w g m
  have hcb := text_b w g m
  have HR2 := hid hR2
  have HCA := hid hca
  have HCB := hid hcb
  clear hR2 hcb
  go_enter Try.func23, Try.ntmps23
  go_wp2_with fail
  refine (whole_text_short _ g m w.heap.size (w.heap.size + 1) HCA.out HCB.out N rest HR2.out hb hN hm hs hl).mono ?_
  rintro e w' ⟨rfl, hq, hc⟩
  have HQ := hid hq
  have HC := hid hc
  clear hq hc hca
  go_wp2
  go_ret2
  exact ⟨rfl, HQ.out, (((Chg.refl _ _).alloc _).alloc _).trans HC.out⟩
set_option maxRecDepth 100000 in
theorem rtext_ok (w : World) (g : Nat) (m : Int) (N : Nat) (rest : List Nat) (hR : Rd w g (gr N ++ rest)) (hb : Byt rest) (hN : N < 9223372036854775808) (hm : (N : Int) ≤ m) (hs : N ≤ rest.length) (hl : rest.length ≤ 1000000000000) :
    Calls Try.prog 23 #[.pointer (some ⟨g, 0, none⟩), .int .i64 m] w (Rds w g (.string (str (rest.take N))) 0 (rest.drop N)) := by
  have hmf := hmf
  have hR2 := (One.alloc (One.alloc hR (.cells #[.pointer (some ⟨g, 0, none⟩)] 38)) (.cells #[.int .i64 m] 3))
  have hca := text_a w g m
  have hcb := text_b w g m
  have HR2 := hid hR2
  have HCA := hid hca
  have HCB := hid hcb
  clear hR2 hcb
  go_enter Try.func23, Try.ntmps23
  go_wp2_with fail
  refine (whole_text_ok _ g m w.heap.size (w.heap.size + 1) HCA.out HCB.out N rest HR2.out hb hN hm hs hl).mono ?_
  rintro e w' ⟨rfl, hq, hc⟩
  have HQ := hid hq
  have HC := hid hc
  clear hq hc hca
  go_wp2
  go_ret2
  exact ⟨rfl, HQ.out, (((Chg.refl _ _).alloc _).alloc _).trans HC.out⟩

theorem whole_text_nil (w : World) (a b : Nat) : Calls Try.prog 32 #[.pointer none, .func (.func 33) #[] #[.pointer (some ⟨a, 0, none⟩), .pointer (some ⟨b, 0, none⟩)]] w fun e w' => e = .returned (.tuple #[.string ⟨#[]⟩, .int .i64 2]) ∧ w = w' := by
  go_enter Try.func32, Try.ntmps32
  go_wp2
  go_ret2
  exact ⟨rfl, rfl⟩
theorem rtext_nil (w : World) (m : Int) : Calls Try.prog 23 #[.pointer none, .int .i64 m] w fun e w' => e = .returned (.tuple #[.string ⟨#[]⟩, .int .i64 2]) ∧ Below w.heap.size w w' := by
  have hmf := hmf
  have hca : ((w.alloc (.cells #[.pointer none] 38)).alloc (.cells #[.int .i64 m] 3)).cell? ⟨w.heap.size, 0, none⟩ = some (.pointer none) := One.cell (One.alloc (One.new w 38 _) _)
  go_enter Try.func23, Try.ntmps23
  go_wp2_with fail
  refine (whole_text_nil _ _ _).mono ?_
  rintro e w' ⟨rfl, rfl⟩
  go_wp2
  go_ret2
  exact ⟨rfl, ((Below.refl _ _).alloc (Nat.le_refl _) _).alloc (by simp) _⟩
end Go.Proofs.Ytjhgebfabjbbjaa
