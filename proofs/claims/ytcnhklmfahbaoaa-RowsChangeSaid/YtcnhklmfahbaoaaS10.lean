/- Changes that are compared; awake. -/
import Derived.Test.YtcnhklmfahbaoaaS9
namespace Go.Proofs.Ytcnhklmfahbaoaa
open Go.RowKit

theorem eq_change (a b a' b' : Int) (s s' : ByteArray) (x x' : Bool) (w : World) :
    (Op.equalIn 10000 47 (.agg #[.int .i64 a, .int .i64 b, .string s, .bool x]) (.agg #[.int .i64 a', .int .i64 b', .string s', .bool x'])).run Try.prog w = .ok (decide (a = a' ∧ b = b' ∧ s.toList = s'.toList ∧ x = x')) w := by
  have u3 := Try.underlying3
  have a3 := Try.isAgg3
  have z3 := Try.sizeOf3
  have u4 := Try.underlying4
  have a4 := Try.isAgg4
  have z4 := Try.sizeOf4
  have u5 := Try.underlying9
  have a5 := Try.isAgg9
  have z5 := Try.sizeOf9
  have u6 := Try.underlying45
  have a6 := Try.isAgg45
  have z6 := Try.sizeOf45
  rw [show (10000 : Nat) = 9998 + 1 + 1 from rfl, Op.equalIn]
  simp only [Sem.run_bind, run_underlying Try.underlying47, Result.andThen_ok]
  go_simp
  by_cases h1 : a = a' <;> by_cases h2 : b = b' <;> by_cases h3 : s.toList = s'.toList <;> by_cases h4 : x = x' <;> simp [h1, h2, h3, h4]

/-- A change in a slice, cell by cell. -/
def CAt (key : ByteArray) (w : World) (a : Addr) (c : Cg) : Prop :=
  w.cell? a = some (.int .i64 (c.1 : Int)) ∧ w.cell? { block := a.block, off := a.off + 1, spot := none } = some (.int .i64 c.2.1) ∧ w.cell? { block := a.block, off := a.off + 2, spot := none } = some (.string key) ∧ w.cell? { block := a.block, off := a.off + 3, spot := none } = some (.bool c.2.2)
theorem add_off (a : Addr) (i j : Nat) : a.add (i + (j + 1)) = { block := (a.add i).block, off := (a.add i).off + (j + 1), spot := none } := by
  rw [← add_add', Addr.add_succ']
theorem Elems.cat {key : ByteArray} {w : World} {A : Option Addr} {n cap i : Nat} {l : List Cg} {c : Cg} (h : Elems 4 (cC key) w (.slice A n cap) l) (hi : l[i]? = some c) : ∃ ad, A = some ad ∧ CAt key w (ad.add (i * 4)) c := by
  obtain ⟨ad, hA, h0⟩ := h.cell (cC_len key) hi (j := 0) rfl
  obtain ⟨ad1, hA1, h1⟩ := h.cell (cC_len key) hi (j := 1) rfl
  obtain ⟨ad2, hA2, h2⟩ := h.cell (cC_len key) hi (j := 2) rfl
  obtain ⟨ad3, hA3, h3⟩ := h.cell (cC_len key) hi (j := 3) rfl
  subst hA
  injection hA1 with hA1; injection hA2 with hA2; injection hA3 with hA3
  subst hA1; subst hA2; subst hA3
  rw [add_off ad _ 0] at h1
  rw [add_off ad _ 1] at h2
  rw [add_off ad _ 2] at h3
  exact ⟨ad, rfl, h0, h1, h2, h3⟩
theorem CAt.below {key : ByteArray} {w w' : World} {a : Addr} {c : Cg} (h : CAt key w a c) (hb : Below w.heap.size w w') : CAt key w' a c :=
  ⟨below_keep hb _ _ h.1, below_keep hb _ _ h.2.1, below_keep hb _ _ h.2.2.1, below_keep hb _ _ h.2.2.2⟩

def wOld : Ro := ⟨1, 0, 0, 0⟩
def wNow : Ro := ⟨1, 2, 0, 0⟩
theorem wake_chg : upto (some wOld) (some wNow) 4 = [(1, 0, false), (1, 2, true)] := by decide
def wRow : Ro := ⟨0, 1, -1, 64⟩
theorem wake_enc : enc wRow.l = [0, 2, 1, 128, 1] := by
  have h0 : gr 0 = [0] := gr_lt (by omega)
  have h1 : gr 1 = [1] := gr_lt (by omega)
  have h2 : gr 2 = [2] := gr_lt (by omega)
  have h3 : gr 128 = [128, 1] := by rw [gr_ge (by omega), gr_lt (by omega)]
  unfold enc wRow Ro.l
  simp [zig, h0, h1, h2, h3]
theorem five_row {w : World} {e : TypeId} {fz : Nat × Nat} : Sl .u8 (w.alloc (.cells #[.int .u8 0, .int .u8 2, .int .u8 1, .int .u8 128, .int .u8 1] e fz)) (.slice (some ⟨w.heap.size, 0, none⟩) 5 5) [0, 2, 1, 128, 1] := by
  refine Sl.row (xs := [0, 2, 1, 128, 1]) (c := 5) (heap_alloc_new w _) (by simp) (by simp [maxLen]) ?_
  intro i x hi
  match i with
  | 0 => simp at hi ⊢; omega
  | 1 => simp at hi ⊢; omega
  | 2 => simp at hi ⊢; omega
  | 3 => simp at hi ⊢; omega
  | 4 => simp at hi ⊢; omega
  | i + 5 => simp at hi
theorem a_str : (⟨#[97]⟩ : ByteArray) = str [97] := by
  apply ba_ext; rw [str_list]; rfl

set_option maxHeartbeats 1000000 in
set_option maxRecDepth 100000 in
theorem awake6 (w : World) : Calls Try.prog 12 #[] w (Yes w) := by
  have heq := eq_change
  have HA := hid a_str
  go_enter Try.func12, Try.ntmps12
  go_wp2_with fail
  rw [HA.out]
  have hp : PRow ((w.alloc (.cells (rowc wOld) 23)).alloc (.cells (rowc wNow) 23)) (.pointer (some ⟨w.heap.size, 0, none⟩)) (some wOld) := by
    refine ⟨_, _, rfl, fun k x hx => ?_⟩
    have h : Lies ((w.alloc (.cells (rowc wOld) 23)).alloc (.cells (rowc wNow) 23)) w.heap.size wOld := (Lies.new w wOld).below ((Below.refl _ _).alloc (Nat.le_refl _) _)
    rw [Nat.zero_add]
    exact h.cell hx
  have hq : PRow ((w.alloc (.cells (rowc wOld) 23)).alloc (.cells (rowc wNow) 23)) (.pointer (some ⟨w.heap.size + 1, 0, none⟩)) (some wNow) := by
    refine ⟨_, _, rfl, fun k x hx => ?_⟩
    have h := Lies.new (w.alloc (.cells (rowc wOld) 23)) wNow
    rw [show (w.alloc (.cells (rowc wOld) 23)).heap.size = w.heap.size + 1 by simp] at h
    rw [Nat.zero_add]
    exact h.cell hx
  refine (changes_both _ [97] _ _ wOld wNow rfl hp hq).mono ?_
  rintro e w1 ⟨u, rfl, hu, hb⟩
  rw [wake_chg, ← HA.out] at hu
  obtain ⟨A, n, cp, rfl⟩ := hu.form
  obtain ⟨ad, rfl, hc0⟩ := hu.cat (i := 0) rfl
  obtain ⟨ad', hA', hc1⟩ := hu.cat (i := 1) rfl
  injection hA' with hA'
  subst hA'
  obtain rfl : n = 2 := hu.cap.1
  have HC0 := hid hc0
  have HC1 := hid hc1
  have HB : Hid (Below w.heap.size w w1) := (((Below.refl _ _).alloc (Nat.le_refl _) _).alloc (by simp) _).trans (hb.mono (by simp; omega))
  clear hu hc0 hc1 hb hp hq
  go_wp2_with fail
  refine (rencode w1 wRow (by intro x hx; simp [Ro.l, wRow] at hx; rcases hx with rfl | rfl | rfl | rfl <;> exact ⟨by omega, by omega⟩)).mono ?_
  rintro e w2 ⟨u, rfl, hu, hb2⟩
  rw [wake_enc] at hu
  have HU := hid hu.sl
  have HB2 := hid hb2.nil_below
  clear hu hb2
  go_wp2_with fail
  refine (bytes_any _ _ _ _ _ (HU.out.alloc _) five_row).mono ?_
  rintro e w3 ⟨rfl, hb3⟩
  have hbb := (HB2.out.alloc HB2.out.size _).trans (hb3.mono (Nat.le_trans HB2.out.size (by simp)))
  obtain ⟨p0, p1, p2, p3⟩ := HC0.out.below hbb
  obtain ⟨q0, q1, q2, q3⟩ := HC1.out.below hbb
  rw [Nat.zero_mul, add_zero'] at p0 p1 p2 p3
  rw [Nat.one_mul, Addr.add_succ'] at q0 q1 q2 q3
  have HBB : Hid (Below w.heap.size w w3) := HB.out.trans (hbb.mono HB.out.size)
  have he : eqB [0, 2, 1, 128, 1] [0, 2, 1, 128, 1] = true := rfl
  rw [he]
  clear hbb hb3
  go_wp2
  go_ret
  exact ⟨rfl, HBB.out⟩
end Go.Proofs.Ytcnhklmfahbaoaa
