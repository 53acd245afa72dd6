/- law07's Finds. -/
import Derived.Test.YtlnagdodnkhbmaaT22
import Derived.Test.YtlnagdodnkhbmaaTF
namespace Go.Proofs.Ytlnagdodnkhbmaa
open Go.RowKit
set_option maxRecDepth 100000
def AskAt (w : World) (b : Nat) (a : Ask7) : Prop :=
  w.cell? ⟨b, 0, none⟩ = some (.int .i64 a.c) ∧ w.cell? ⟨b, 1, none⟩ = some (.int .i64 a.lo) ∧ w.cell? ⟨b, 2, none⟩ = some (.int .i64 a.hi) ∧ w.cell? ⟨b, 3, none⟩ = some (.int .i64 a.m)
theorem AskAt.new (w : World) (a : Ask7) (e : TypeId) : AskAt (w.alloc (.cells #[.int .i64 a.c, .int .i64 a.lo, .int .i64 a.hi, .int .i64 a.m] e)) w.heap.size a :=
  ⟨cell_of_row _ _ 0 _ _ _ (heap_alloc_new w _), cell_of_row _ _ 1 _ _ _ (heap_alloc_new w _), cell_of_row _ _ 2 _ _ _ (heap_alloc_new w _), cell_of_row _ _ 3 _ _ _ (heap_alloc_new w _)⟩
theorem AskAt.below {w w' : World} {b : Nat} {a : Ask7} (h : AskAt w b a) (hb : Below w.heap.size w w') : AskAt w' b a := ⟨below_keep hb _ _ h.1, below_keep hb _ _ h.2.1, below_keep hb _ _ h.2.2.1, below_keep hb _ _ h.2.2.2⟩
theorem findL_byt {l : List KR} (h : RowsOk l) (c : Nat) (lo hi : Int) (m : Nat) : ∀ x ∈ findL c lo hi m l, Byt x := fun x hx => by
  obtain ⟨q, hq, rfl⟩ := List.mem_map.1 (List.mem_of_mem_take hx)
  exact h.byt q ((tellK_mem h).1 hq).1
section
variable {w : World} {T : Nat} {p : Nat → Nat} {Q : Bl} {most o : Nat} {G : List Nat} {rp : Nat} {l : List KR}
theorem finds_low (a : Ask7) (ha : a.Ok) (h : a.c < 0) :
    Calls Try.prog 14 #[.pointer (some ⟨T, 0, none⟩), .pointer (some ⟨rp, 0, none⟩), askV a] w (Yes w) := by
  obtain ⟨wa, HWA⟩ : ∃ wa, Hid (wa = w.alloc (.cells #[.int .i64 a.c, .int .i64 a.lo, .int .i64 a.hi, .int .i64 a.m] 38)) := ⟨_, rfl⟩
  have HBA : Hid (Below w.heap.size w wa) := by rw [HWA.out]; exact (Below.refl _ _).alloc (Nat.le_refl _) _
  have HAA : Hid (AskAt wa w.heap.size a) := by rw [HWA.out]; exact AskAt.new w a _
  unfold askV
  go_enter Try.func14, Try.ntmps14
  go_wp2_with fail
  rw [← HWA.out]
  refine (tfind_col T a.c a.lo a.hi a.m ha.lo ha.hi (.inl h)).mono ?_
  rintro e w1 ⟨rfl, hb1⟩
  have HB1 := hid (below_step HBA.out hb1)
  obtain ⟨a0, a1, a2, a3⟩ := HAA.out.below hb1
  clear hb1
  go_wp2
  go_ret
  exact ⟨rfl, HB1.out⟩
theorem finds_high (a : Ask7) (ha : a.Ok) (h0 : ¬ a.c < 0) (h : 3 < a.c) :
    Calls Try.prog 14 #[.pointer (some ⟨T, 0, none⟩), .pointer (some ⟨rp, 0, none⟩), askV a] w (Yes w) := by
  obtain ⟨wa, HWA⟩ : ∃ wa, Hid (wa = w.alloc (.cells #[.int .i64 a.c, .int .i64 a.lo, .int .i64 a.hi, .int .i64 a.m] 38)) := ⟨_, rfl⟩
  have HBA : Hid (Below w.heap.size w wa) := by rw [HWA.out]; exact (Below.refl _ _).alloc (Nat.le_refl _) _
  have HAA : Hid (AskAt wa w.heap.size a) := by rw [HWA.out]; exact AskAt.new w a _
  unfold askV
  go_enter Try.func14, Try.ntmps14
  go_wp2_with fail
  rw [← HWA.out]
  refine (tfind_col T a.c a.lo a.hi a.m ha.lo ha.hi (.inr ⟨by omega, by omega⟩)).mono ?_
  rintro e w1 ⟨rfl, hb1⟩
  have HB1 := hid (below_step HBA.out hb1)
  obtain ⟨a0, a1, a2, a3⟩ := HAA.out.below hb1
  clear hb1
  go_wp2
  go_ret
  exact ⟨rfl, HB1.out⟩
theorem finds_range (a : Ask7) (_ha : a.Ok) (h0 : ¬ a.c < 0) (h3 : ¬ 3 < a.c) (h : a.hi < a.lo) :
    Calls Try.prog 14 #[.pointer (some ⟨T, 0, none⟩), .pointer (some ⟨rp, 0, none⟩), askV a] w (Yes w) := by
  obtain ⟨wa, HWA⟩ : ∃ wa, Hid (wa = w.alloc (.cells #[.int .i64 a.c, .int .i64 a.lo, .int .i64 a.hi, .int .i64 a.m] 38)) := ⟨_, rfl⟩
  have HBA : Hid (Below w.heap.size w wa) := by rw [HWA.out]; exact (Below.refl _ _).alloc (Nat.le_refl _) _
  have HAA : Hid (AskAt wa w.heap.size a) := by rw [HWA.out]; exact AskAt.new w a _
  have HC : Hid (Calls Try.prog 15 #[.pointer (some ⟨T, 0, none⟩), .int .i64 a.c, .int .i64 a.lo, .int .i64 a.hi, .int .i64 a.m] wa fun e w' => e = .returned (.tuple #[.slice none 0 0, .int .i64 10]) ∧ Below wa.heap.size wa w') := by
    have := tfind_range (w := wa) T a.c.toNat (by omega) a.lo a.hi a.m h
    rwa [show ((a.c.toNat : Nat) : Int) = a.c by omega] at this
  unfold askV
  go_enter Try.func14, Try.ntmps14
  go_wp2_with fail
  rw [← HWA.out]
  refine (HC.out).mono ?_
  rintro e w1 ⟨rfl, hb1⟩
  have HB1 := hid (below_step HBA.out hb1)
  obtain ⟨a0, a1, a2, a3⟩ := HAA.out.below hb1
  clear hb1
  go_wp2
  go_ret
  exact ⟨rfl, HB1.out⟩
theorem finds_few (a : Ask7) (ha : a.Ok) (h0 : ¬ a.c < 0) (h3 : ¬ 3 < a.c) (h : ¬ a.hi < a.lo) (hm : a.m < 0) :
    Calls Try.prog 14 #[.pointer (some ⟨T, 0, none⟩), .pointer (some ⟨rp, 0, none⟩), askV a] w (Yes w) := by
  obtain ⟨wa, HWA⟩ : ∃ wa, Hid (wa = w.alloc (.cells #[.int .i64 a.c, .int .i64 a.lo, .int .i64 a.hi, .int .i64 a.m] 38)) := ⟨_, rfl⟩
  have HBA : Hid (Below w.heap.size w wa) := by rw [HWA.out]; exact (Below.refl _ _).alloc (Nat.le_refl _) _
  have HAA : Hid (AskAt wa w.heap.size a) := by rw [HWA.out]; exact AskAt.new w a _
  have HC : Hid (Calls Try.prog 15 #[.pointer (some ⟨T, 0, none⟩), .int .i64 a.c, .int .i64 a.lo, .int .i64 a.hi, .int .i64 a.m] wa fun e w' => e = .returned (.tuple #[.slice none 0 0, .int .i64 23]) ∧ Below wa.heap.size wa w') := by
    have := tfind_few (w := wa) T a.c.toNat (by omega) a.lo a.hi a.m ha.lo ha.hi (by omega) hm
    rwa [show ((a.c.toNat : Nat) : Int) = a.c by omega] at this
  unfold askV
  go_enter Try.func14, Try.ntmps14
  go_wp2_with fail
  rw [← HWA.out]
  refine (HC.out).mono ?_
  rintro e w1 ⟨rfl, hb1⟩
  have HB1 := hid (below_step HBA.out hb1)
  obtain ⟨a0, a1, a2, a3⟩ := HAA.out.below hb1
  clear hb1
  go_wp2
  go_ret
  exact ⟨rfl, HB1.out⟩
theorem finds_ok (ht : Tab w T p Q most o l) (hr : RTab w G rp most l) (a : Ask7) (ha : a.Ok) (h0 : ¬ a.c < 0) (h3 : ¬ 3 < a.c) (h : ¬ a.hi < a.lo) (hm : ¬ a.m < 0) :
    Calls Try.prog 14 #[.pointer (some ⟨T, 0, none⟩), .pointer (some ⟨rp, 0, none⟩), askV a] w (Yes w) := by
  obtain ⟨wa, HWA⟩ : ∃ wa, Hid (wa = w.alloc (.cells #[.int .i64 a.c, .int .i64 a.lo, .int .i64 a.hi, .int .i64 a.m] 38)) := ⟨_, rfl⟩
  have HBA : Hid (Below w.heap.size w wa) := by rw [HWA.out]; exact (Below.refl _ _).alloc (Nat.le_refl _) _
  have HAA : Hid (AskAt wa w.heap.size a) := by rw [HWA.out]; exact AskAt.new w a _
  have hm2 : a.m.toNat ≤ 9223372036854775807 := by have := ha.m.2; omega
  obtain ⟨L, HL⟩ : ∃ L, Hid (L = findL a.c.toNat a.lo a.hi a.m.toNat l) := ⟨_, rfl⟩
  have HLB : Hid (∀ x ∈ L, Byt x) := by rw [HL.out]; exact findL_byt ht.rows _ _ _ _
  have HC : Hid (Calls Try.prog 15 #[.pointer (some ⟨T, 0, none⟩), .int .i64 a.c, .int .i64 a.lo, .int .i64 a.hi, .int .i64 a.m] wa (FindEnd wa L)) := by
    have := tfind (ht.below HBA.out) a.c.toNat (by omega) a.lo a.hi a.m.toNat ha.lo ha.hi (by omega) hm2
    rwa [show ((a.c.toNat : Nat) : Int) = a.c by omega, show ((a.m.toNat : Nat) : Int) = a.m by omega, ← HL.out] at this
  have HD : Hid (∀ w', Below w.heap.size w w' → Calls Try.prog 35 #[.pointer (some ⟨rp, 0, none⟩), .int .i64 a.c, .agg #[.int .i64 a.lo, .int .i64 a.hi], .int .i64 a.m] w' (RFindEnd w' L)) := fun w' hb => by
    have := rfind (hr.below hb) ht.rows ht.le a.c.toNat (by omega) a.lo a.hi a.m.toNat hm2
    rwa [show ((a.c.toNat : Nat) : Int) = a.c by omega, show ((a.m.toNat : Nat) : Int) = a.m by omega, ← HL.out] at this
  clear ht hr hm2
  unfold askV
  go_enter Try.func14, Try.ntmps14
  go_wp2_with fail
  rw [← HWA.out]
  refine HC.out.mono ?_
  rintro e w1 ⟨v1, rfl, ho1, hb1⟩
  have HB1 := hid (below_step HBA.out hb1)
  have HO1 := hid ho1.rows
  obtain ⟨a0, a1, a2, a3⟩ := HAA.out.below hb1
  clear hb1 ho1
  go_wp2_with fail
  refine (HD.out _ HB1.out).mono ?_
  rintro e w2 ⟨v2, rfl, ho2, hb2⟩
  have HO2 := hid ho2.rows
  have HB2 := hid hb2
  clear hb2 ho2
  go_wp2_with fail
  refine (texts_same _ v1 v2 L (HO1.out.below HB2.out) HO2.out HLB.out).mono ?_
  rintro e w3 ⟨rfl, hb3⟩
  go_wp2
  go_ret
  exact ⟨rfl, below_step (below_step HB1.out HB2.out) hb3⟩
theorem finds_any (ht : Tab w T p Q most o l) (hr : RTab w G rp most l) (a : Ask7) (ha : a.Ok) :
    Calls Try.prog 14 #[.pointer (some ⟨T, 0, none⟩), .pointer (some ⟨rp, 0, none⟩), askV a] w (Yes w) := by
  by_cases h0 : a.c < 0
  · exact finds_low a ha h0
  · by_cases h3 : 3 < a.c
    · exact finds_high a ha h0 h3
    · by_cases h : a.hi < a.lo
      · exact finds_range a ha h0 h3 h
      · by_cases hm : a.m < 0
        · exact finds_few a ha h0 h3 h hm
        · exact finds_ok ht hr a ha h0 h3 h hm
end
end Go.Proofs.Ytlnagdodnkhbmaa
