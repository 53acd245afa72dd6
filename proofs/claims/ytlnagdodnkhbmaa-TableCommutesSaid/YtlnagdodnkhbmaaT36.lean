/- TableCommutes. -/
import Derived.Test.YtlnagdodnkhbmaaT35
namespace Go.Proofs.Ytlnagdodnkhbmaa
open Go.RowKit
set_option maxRecDepth 100000
theorem eq_four9 (a b c d : Int) (w : World) : (Op.equalIn 9999 33 (.agg #[.int .i64 a, .int .i64 b, .int .i64 c, .int .i64 d]) (.agg #[.int .i64 a, .int .i64 b, .int .i64 c, .int .i64 d])).run Try.prog w = .ok true w := by
  have u3 := Try.underlying3
  have a3 := Try.isAgg3
  have z3 := Try.sizeOf3
  rw [show (9999 : Nat) = 9998 + 1 from rfl, Op.equalIn]
  simp only [Sem.run_bind, run_underlying Try.underlying33, Result.andThen_ok]
  simp only [Std.Legacy.Range.forIn_eq_forIn_range', Std.Legacy.Range.size, Nat.sub_zero, Nat.add_sub_cancel, Nat.div_one, List.range'_succ, List.range'_zero, List.forIn_cons, List.forIn_nil]
  go_simp
def Two7 (w : World) (g : Nat) (a b : Op7) : Prop := w.heap[g]? = some (.cells #[.int .i64 a.k, .string (str a.key), .int .i64 a.row.a, .int .i64 a.row.b, .int .i64 a.row.c, .int .i64 a.row.d, .int .i64 b.k, .string (str b.key), .int .i64 b.row.a, .int .i64 b.row.b, .int .i64 b.row.c, .int .i64 b.row.d] 59 (0, 0))
def opV2 (a b : Op7) : Value := .agg #[.int .i64 a.k, .string (str a.key), .int .i64 a.row.a, .int .i64 a.row.b, .int .i64 a.row.c, .int .i64 a.row.d, .int .i64 b.k, .string (str b.key), .int .i64 b.row.a, .int .i64 b.row.b, .int .i64 b.row.c, .int .i64 b.row.d]
section
variable {w w' : World} {g : Nat} {a b : Op7}
theorem Two7.lt (h : Two7 w g a b) : g < w.heap.size := by unfold Two7 at h; exact (Array.getElem?_eq_some_iff.1 h).1
theorem Two7.keep (h : Two7 w g a b) (hk : w'.heap[g]? = w.heap[g]?) : Two7 w' g a b := by unfold Two7 at h ⊢; exact hk.trans h
theorem Two7.below (h : Two7 w g a b) (hb : Below w.heap.size w w') : Two7 w' g a b := h.keep (hb.block g h.lt)
theorem Two7.new (w : World) (a b : Op7) : Two7 (w.alloc (.cells #[.int .i64 a.k, .string (str a.key), .int .i64 a.row.a, .int .i64 a.row.b, .int .i64 a.row.c, .int .i64 a.row.d, .int .i64 b.k, .string (str b.key), .int .i64 b.row.a, .int .i64 b.row.b, .int .i64 b.row.c, .int .i64 b.row.d] 59)) w.heap.size a b := by unfold Two7; exact heap_alloc_new w _
theorem Two7.keys (h : Two7 w g a b) : w.cell? ⟨g, 1, none⟩ = some (.string (str a.key)) ∧ w.cell? ⟨g, 7, none⟩ = some (.string (str b.key)) := by
  unfold Two7 at h; exact ⟨cell_of_row _ _ 1 _ _ _ h, cell_of_row _ _ 7 _ _ _ h⟩
theorem Two7.fst (h : Two7 w g a b) : w.cell? ⟨g, 0, none⟩ = some (.int .i64 a.k) ∧ w.cell? ⟨g, 1, none⟩ = some (.string (str a.key)) ∧ w.cell? ⟨g, 2, none⟩ = some (.int .i64 a.row.a) ∧ w.cell? ⟨g, 3, none⟩ = some (.int .i64 a.row.b) ∧ w.cell? ⟨g, 4, none⟩ = some (.int .i64 a.row.c) ∧ w.cell? ⟨g, 5, none⟩ = some (.int .i64 a.row.d) := by
  unfold Two7 at h; exact ⟨cell_of_row _ _ 0 _ _ _ h, cell_of_row _ _ 1 _ _ _ h, cell_of_row _ _ 2 _ _ _ h, cell_of_row _ _ 3 _ _ _ h, cell_of_row _ _ 4 _ _ _ h, cell_of_row _ _ 5 _ _ _ h⟩
theorem Two7.snd (h : Two7 w g a b) : w.cell? ⟨g, 6, none⟩ = some (.int .i64 b.k) ∧ w.cell? ⟨g, 7, none⟩ = some (.string (str b.key)) ∧ w.cell? ⟨g, 8, none⟩ = some (.int .i64 b.row.a) ∧ w.cell? ⟨g, 9, none⟩ = some (.int .i64 b.row.b) ∧ w.cell? ⟨g, 10, none⟩ = some (.int .i64 b.row.c) ∧ w.cell? ⟨g, 11, none⟩ = some (.int .i64 b.row.d) := by
  unfold Two7 at h; exact ⟨cell_of_row _ _ 6 _ _ _ h, cell_of_row _ _ 7 _ _ _ h, cell_of_row _ _ 8 _ _ _ h, cell_of_row _ _ 9 _ _ _ h, cell_of_row _ _ 10 _ _ _ h, cell_of_row _ _ 11 _ _ _ h⟩
end
theorem AnsAt.keep {w w' : World} {g : Nat} {r : Ro} {b : Bool} {e : Int} (h : AnsAt w g r b e) (hk : w'.heap[g]? = w.heap[g]?) : AnsAt w' g r b e := by unfold AnsAt at h ⊢; exact hk.trans h
theorem ansW_step {l : List KR} (h : RowsOk l) {most : Nat} (hm : l.length < most) {o a : Op7} (ho : o.Ok) (hne : a.key ≠ o.key) : ansW (stepK most l o) a = ansW l a := by unfold ansW; rw [kputW_step h hm ho hne]
theorem ansE_step {l : List KR} (h : RowsOk l) {most : Nat} (hm : l.length + 2 ≤ most) {o a : Op7} (ho : o.Ok) (hne : a.key ≠ o.key) : ansE most (stepK most l o) a = ansE most l a := by unfold ansE; rw [kputE_step hm, kgetE_step h (by omega) ho hne]
theorem comm_e1 (w : World) (n : Int) (v : Value) (a b : Op7) (h : rightB n = false) : Calls Try.prog 7 #[.int .i64 n, v, opV2 a b] w (Yes w) := by
  obtain ⟨wa, HWA⟩ : ∃ wa, Hid (wa = w.alloc (.cells #[.int .i64 a.k, .string (str a.key), .int .i64 a.row.a, .int .i64 a.row.b, .int .i64 a.row.c, .int .i64 a.row.d, .int .i64 b.k, .string (str b.key), .int .i64 b.row.a, .int .i64 b.row.b, .int .i64 b.row.c, .int .i64 b.row.d] 59)) := ⟨_, rfl⟩
  have HBA : Hid (Below w.heap.size w wa) := by rw [HWA.out]; exact (Below.refl _ _).alloc (Nat.le_refl _) _
  have HO : Hid (Two7 wa w.heap.size a b) := by rw [HWA.out]; exact Two7.new w a b
  unfold opV2
  go_enter Try.func7, Try.ntmps7
  go_wp2_with fail
  rw [← HWA.out]
  refine (right_any wa n).mono ?_
  rw [h]
  rintro e w1 ⟨rfl, rfl⟩
  go_wp2_with fail
  refine (awake_any _).mono ?_
  rintro e w9 ⟨rfl, hb9⟩
  go_wp2
  go_ret
  exact ⟨rfl, below_step HBA.out hb9⟩
theorem comm_e2 (w : World) (n : Int) (v : Value) (a b : Op7) (os : List Op7) (hv : Elems 6 cOp w v os) (h : rightB n = true) (hf : few7 os = false) : Calls Try.prog 7 #[.int .i64 n, v, opV2 a b] w (Yes w) := by
  obtain ⟨wa, HWA⟩ : ∃ wa, Hid (wa = w.alloc (.cells #[.int .i64 a.k, .string (str a.key), .int .i64 a.row.a, .int .i64 a.row.b, .int .i64 a.row.c, .int .i64 a.row.d, .int .i64 b.k, .string (str b.key), .int .i64 b.row.a, .int .i64 b.row.b, .int .i64 b.row.c, .int .i64 b.row.d] 59)) := ⟨_, rfl⟩
  have HBA : Hid (Below w.heap.size w wa) := by rw [HWA.out]; exact (Below.refl _ _).alloc (Nat.le_refl _) _
  have HO : Hid (Two7 wa w.heap.size a b) := by rw [HWA.out]; exact Two7.new w a b
  unfold opV2
  go_enter Try.func7, Try.ntmps7
  go_wp2_with fail
  rw [← HWA.out]
  refine (right_any wa n).mono ?_
  rw [h]
  rintro e w1 ⟨rfl, rfl⟩
  go_wp2_with fail
  refine (few7_any _ v os (hv.below HBA.out)).mono ?_
  rw [hf]
  rintro e w2 ⟨rfl, rfl⟩
  go_wp2_with fail
  refine (awake_any _).mono ?_
  rintro e w9 ⟨rfl, hb9⟩
  go_wp2
  go_ret
  exact ⟨rfl, below_step HBA.out hb9⟩
theorem comm_e3 (w : World) (n : Int) (v : Value) (a b : Op7) (os : List Op7) (hv : Elems 6 cOp w v os) (h : rightB n = true) (hf : few7 os = true) (hk : 100 < a.key.length) : Calls Try.prog 7 #[.int .i64 n, v, opV2 a b] w (Yes w) := by
  obtain ⟨wa, HWA⟩ : ∃ wa, Hid (wa = w.alloc (.cells #[.int .i64 a.k, .string (str a.key), .int .i64 a.row.a, .int .i64 a.row.b, .int .i64 a.row.c, .int .i64 a.row.d, .int .i64 b.k, .string (str b.key), .int .i64 b.row.a, .int .i64 b.row.b, .int .i64 b.row.c, .int .i64 b.row.d] 59)) := ⟨_, rfl⟩
  have HBA : Hid (Below w.heap.size w wa) := by rw [HWA.out]; exact (Below.refl _ _).alloc (Nat.le_refl _) _
  have HO : Hid (Two7 wa w.heap.size a b) := by rw [HWA.out]; exact Two7.new w a b
  obtain ⟨hc1, hc7⟩ := HO.out.keys
  have hs1 := str_size a.key
  have hki : (100 : Int) < (a.key.length : Int) := by omega
  unfold opV2
  go_enter Try.func7, Try.ntmps7
  go_wp2_with fail
  rw [← HWA.out]
  refine (right_any wa n).mono ?_
  rw [h]
  rintro e w1 ⟨rfl, rfl⟩
  go_wp2_with fail
  refine (few7_any _ v os (hv.below HBA.out)).mono ?_
  rw [hf]
  rintro e w2 ⟨rfl, rfl⟩
  go_wp2_with fail
  refine (awake_any _).mono ?_
  rintro e w9 ⟨rfl, hb9⟩
  go_wp2
  go_ret
  exact ⟨rfl, below_step HBA.out hb9⟩
theorem comm_e4 (w : World) (n : Int) (v : Value) (a b : Op7) (os : List Op7) (hv : Elems 6 cOp w v os) (h : rightB n = true) (hf : few7 os = true) (hk : ¬ 100 < a.key.length) (hk2 : 100 < b.key.length) : Calls Try.prog 7 #[.int .i64 n, v, opV2 a b] w (Yes w) := by
  obtain ⟨wa, HWA⟩ : ∃ wa, Hid (wa = w.alloc (.cells #[.int .i64 a.k, .string (str a.key), .int .i64 a.row.a, .int .i64 a.row.b, .int .i64 a.row.c, .int .i64 a.row.d, .int .i64 b.k, .string (str b.key), .int .i64 b.row.a, .int .i64 b.row.b, .int .i64 b.row.c, .int .i64 b.row.d] 59)) := ⟨_, rfl⟩
  have HBA : Hid (Below w.heap.size w wa) := by rw [HWA.out]; exact (Below.refl _ _).alloc (Nat.le_refl _) _
  have HO : Hid (Two7 wa w.heap.size a b) := by rw [HWA.out]; exact Two7.new w a b
  obtain ⟨hc1, hc7⟩ := HO.out.keys
  have hs1 := str_size a.key
  have hs2 := str_size b.key
  have hki : ¬ (100 : Int) < (a.key.length : Int) := by omega
  have hki2 : (100 : Int) < (b.key.length : Int) := by omega
  unfold opV2
  go_enter Try.func7, Try.ntmps7
  go_wp2_with fail
  rw [← HWA.out]
  refine (right_any wa n).mono ?_
  rw [h]
  rintro e w1 ⟨rfl, rfl⟩
  go_wp2_with fail
  refine (few7_any _ v os (hv.below HBA.out)).mono ?_
  rw [hf]
  rintro e w2 ⟨rfl, rfl⟩
  go_wp2_with fail
  refine (awake_any _).mono ?_
  rintro e w9 ⟨rfl, hb9⟩
  go_wp2
  go_ret
  exact ⟨rfl, below_step HBA.out hb9⟩
theorem comm_e5 (w : World) (n : Int) (v : Value) (a b : Op7) (os : List Op7) (hv : Elems 6 cOp w v os) (h : rightB n = true) (hf : few7 os = true) (ha : a.Ok) (hb : b.Ok) (hk : ¬ 100 < a.key.length) (hk2 : ¬ 100 < b.key.length) (heqk : a.key = b.key) : Calls Try.prog 7 #[.int .i64 n, v, opV2 a b] w (Yes w) := by
  obtain ⟨wa, HWA⟩ : ∃ wa, Hid (wa = w.alloc (.cells #[.int .i64 a.k, .string (str a.key), .int .i64 a.row.a, .int .i64 a.row.b, .int .i64 a.row.c, .int .i64 a.row.d, .int .i64 b.k, .string (str b.key), .int .i64 b.row.a, .int .i64 b.row.b, .int .i64 b.row.c, .int .i64 b.row.d] 59)) := ⟨_, rfl⟩
  have HBA : Hid (Below w.heap.size w wa) := by rw [HWA.out]; exact (Below.refl _ _).alloc (Nat.le_refl _) _
  have HO : Hid (Two7 wa w.heap.size a b) := by rw [HWA.out]; exact Two7.new w a b
  obtain ⟨hc1, hc7⟩ := HO.out.keys
  have hs1 := str_size a.key
  have hs2 := str_size b.key
  have hki : ¬ (100 : Int) < (a.key.length : Int) := by omega
  have hki2 : ¬ (100 : Int) < (b.key.length : Int) := by omega
  have hbeq := beq_str ha.key hb.key
  rw [decide_eq_true heqk] at hbeq
  clear heqk
  unfold opV2
  go_enter Try.func7, Try.ntmps7
  go_wp2_with fail
  rw [← HWA.out]
  refine (right_any wa n).mono ?_
  rw [h]
  rintro e w1 ⟨rfl, rfl⟩
  go_wp2_with fail
  refine (few7_any _ v os (hv.below HBA.out)).mono ?_
  rw [hf]
  rintro e w2 ⟨rfl, rfl⟩
  go_wp2_with fail
  refine (awake_any _).mono ?_
  rintro e w9 ⟨rfl, hb9⟩
  go_wp2
  go_ret
  exact ⟨rfl, below_step HBA.out hb9⟩
theorem bel_chg {W w : World} {F : List Nat} (h : Below W.heap.size W w) (hF : ∀ k ∈ F, W.heap.size ≤ k) : Chg [] W w F := (Chg.of_below (F := []) h).less fun k hk => .inr (hF k hk)
set_option maxHeartbeats 4000000 in
theorem comm_ok (w : World) (most : Nat) (h1 : 1 ≤ most) (h2 : most ≤ 1024) (v : Value) (os : List Op7) (hv : Elems 6 cOp w v os) (hos : OpsOk os) (a b : Op7) (ha : a.Ok) (hb : b.Ok) (hk : ¬ 100 < a.key.length) (hk2 : ¬ 100 < b.key.length) (hne : a.key ≠ b.key) (hf : few7 os = true) :
    Calls Try.prog 7 #[.int .i64 (most : Int), v, opV2 a b] w (Yes w) := by
  obtain ⟨wa, HWA⟩ : ∃ wa, Hid (wa = w.alloc (.cells #[.int .i64 a.k, .string (str a.key), .int .i64 a.row.a, .int .i64 a.row.b, .int .i64 a.row.c, .int .i64 a.row.d, .int .i64 b.k, .string (str b.key), .int .i64 b.row.a, .int .i64 b.row.b, .int .i64 b.row.c, .int .i64 b.row.d] 59)) := ⟨_, rfl⟩
  have HBA : Hid (Below w.heap.size w wa) := by rw [HWA.out]; exact (Below.refl _ _).alloc (Nat.le_refl _) _
  have HO : Hid (Two7 wa w.heap.size a b) := by rw [HWA.out]; exact Two7.new w a b
  have HV := hid (hv.below HBA.out)
  have HR : Hid (rightB (most : Int) = true) := decide_eq_true (by omega)
  have HOS := hid hos
  have HAK := hid ha
  have HBK := hid hb
  have HNE := hid hne
  obtain ⟨hc1, hc7⟩ := HO.out.keys
  have hs1 := str_size a.key
  have hs2 := str_size b.key
  have hki : ¬ (100 : Int) < (a.key.length : Int) := by omega
  have hki2 : ¬ (100 : Int) < (b.key.length : Int) := by omega
  have hbeq := beq_str ha.key hb.key
  simp only [hne, decide_false] at hbeq
  clear hv hos ha hb hk hk2 hne
  unfold opV2
  go_enter Try.func7, Try.ntmps7
  go_wp2_with fail
  rw [← HWA.out]
  refine (right_any wa _).mono ?_
  rw [HR.out]
  rintro e w1 ⟨rfl, rfl⟩
  go_wp2_with fail
  refine (few7_any _ v os HV.out).mono ?_
  rw [hf]
  rintro e w2 ⟨rfl, rfl⟩
  go_wp2_with fail
  refine (madeQ_any _ most h1 h2 v os HV.out HOS.out).mono ?_
  rintro e w3 ⟨p, Q, G, rp, rfl, hst, hq⟩
  have HS1 := hid hst
  have HQ1 := hid hq
  obtain ⟨T, HTT⟩ : ∃ T, Hid (T = w1.heap.size) := ⟨_, rfl⟩
  rw [← HTT.out] at HS1 ⊢
  clear hst hq hc1 hc7
  go_wp2_with fail
  refine (madeQ_any _ most h1 h2 v os (HV.out.below HS1.out.since) HOS.out).mono ?_
  rintro e w4 ⟨p2, Q2, G2, rp2, rfl, hst, hq⟩
  have HS2 := hid hst
  have HQ2 := hid hq
  obtain ⟨T2, HTT2⟩ : ∃ T, Hid (T = w3.heap.size) := ⟨_, rfl⟩
  rw [← HTT2.out] at HS2 ⊢
  obtain ⟨l, HL⟩ : ∃ l, Hid (l = runK most [] os) := ⟨_, rfl⟩
  rw [← HL.out] at HS1 HS2
  have HROWS := hid HS1.out.t.rows
  have HLM := hid HS1.out.t.full
  have HT1 := hid (HS1.out.t.below HS2.out.since)
  have HT2 := hid HS2.out.t
  have HP1 : Hid (∀ i, i < 5 → w1.heap.size ≤ p i ∧ p i < w3.heap.size) := fun i hi => ⟨by
    rcases HS1.out.c.foot (p i) (List.mem_cons_of_mem _ (mem_five.2 ⟨i, hi, rfl⟩)) with h | h
    · cases h
    · exact h, HS1.out.t.plt hi⟩
  have HP2 : Hid (∀ i, i < 5 → w3.heap.size ≤ p2 i ∧ p2 i < w4.heap.size) := fun i hi => ⟨by
    rcases HS2.out.c.foot (p2 i) (List.mem_cons_of_mem _ (mem_five.2 ⟨i, hi, rfl⟩)) with h | h
    · cases h
    · exact h, HS2.out.t.plt hi⟩
  have HLT : Hid (T < w3.heap.size ∧ T2 < w4.heap.size ∧ w1.heap.size ≤ w3.heap.size ∧ w3.heap.size ≤ w4.heap.size) := ⟨HS1.out.t.lt, HS2.out.t.lt, HS1.out.since.size, HS2.out.since.size⟩
  have HB4 := hid (below_step HS1.out.since HS2.out.since)
  have HC4 : Hid (Chg [] w1 w4 (five p ++ five p2)) := bel_chg HB4.out fun k hk => by
    rcases List.mem_append.1 hk with hk | hk
    · obtain ⟨i, hi, rfl⟩ := mem_five.1 hk
      exact (HP1.out i hi).1
    · obtain ⟨i, hi, rfl⟩ := mem_five.1 hk
      exact Nat.le_trans HLT.out.2.2.1 (HP2.out i hi).1
  have HO4 := hid (HO.out.below HB4.out)
  have HNB : Hid (w.heap.size < w1.heap.size) := HO.out.lt
  have HQU1 : Hid (∀ b, Q b → b < w3.heap.size) := fun b hb => HS1.out.t.under b hb
  have HQU2 : Hid (∀ b, Q2 b → w3.heap.size ≤ b ∧ b < w4.heap.size) := fun b hb => ⟨HQ2.out b hb, HS2.out.t.under b hb⟩
  obtain ⟨n, HN⟩ : ∃ n, Hid (n = l.length) := ⟨_, rfl⟩
  have HLN : Hid (Calls Try.prog 16 #[.pointer (some ⟨T, 0, none⟩)] w4 fun e w' => e = .returned (.int .i64 (n : Int)) ∧ w' = w4) := by
    rw [HN.out]; exact tlen HT1.out
  have hn : n ≤ 1024 := by rw [HN.out]; exact HT1.out.le
  have hwn : IntKind.i64.wrap ((n : Int) + 2) = (n : Int) + 2 := wrap_ok (by omega) (by omega)
  clear hst hq hbeq
  go_wp2_with fail
  refine HLN.out.mono ?_
  rintro e w5 ⟨rfl, rfl⟩
  by_cases hroom : (most : Int) < (n : Int) + 2
  · go_wp2_with fail
    refine (awake_any _).mono ?_
    rintro e w9 ⟨rfl, hb9⟩
    go_wp2
    go_ret
    exact ⟨rfl, below_step (below_step HBA.out HB4.out) hb9⟩
  have HRM : Hid (l.length + 2 ≤ most) := by show _ ≤ _; have := HN.out; omega
  obtain ⟨R0, HR0⟩ : ∃ R, Hid (R = kgetR l a.key) := ⟨_, rfl⟩
  obtain ⟨W0, HW0⟩ : ∃ R, Hid (R = ansW l a) := ⟨_, rfl⟩
  obtain ⟨E0, HE0⟩ : ∃ R, Hid (R = ansE most l a) := ⟨_, rfl⟩
  obtain ⟨R1, HR1⟩ : ∃ R, Hid (R = kgetR l b.key) := ⟨_, rfl⟩
  obtain ⟨W1, HW1⟩ : ∃ R, Hid (R = ansW l b) := ⟨_, rfl⟩
  obtain ⟨E1, HE1⟩ : ∃ R, Hid (R = ansE most l b) := ⟨_, rfl⟩
  obtain ⟨la, HLA⟩ : ∃ m, Hid (m = stepK most l a) := ⟨_, rfl⟩
  obtain ⟨lb, HLB⟩ : ∃ m, Hid (m = stepK most l b) := ⟨_, rfl⟩
  obtain ⟨lz, HLZ⟩ : ∃ m, Hid (m = stepK most la b) := ⟨_, rfl⟩
  have HSW : Hid (stepK most lb a = lz) := by show _ = _; rw [HLZ.out, HLA.out, HLB.out]; exact (stepK_swap HROWS.out HRM.out HAK.out HBK.out HNE.out).symm
  have HG1 : Hid (kgetR la b.key = R1 ∧ ansW la b = W1 ∧ ansE most la b = E1) := by
    rw [HLA.out, HR1.out, HW1.out, HE1.out]
    exact ⟨kgetR_step HROWS.out (by have := HRM.out; omega) HAK.out (Ne.symm HNE.out), ansW_step HROWS.out (by have := HRM.out; omega) HAK.out (Ne.symm HNE.out), ansE_step HROWS.out HRM.out HAK.out (Ne.symm HNE.out)⟩
  have HG0 : Hid (kgetR lb a.key = R0 ∧ ansW lb a = W0 ∧ ansE most lb a = E0) := by
    rw [HLB.out, HR0.out, HW0.out, HE0.out]
    exact ⟨kgetR_step HROWS.out (by have := HRM.out; omega) HBK.out HNE.out, ansW_step HROWS.out (by have := HRM.out; omega) HBK.out HNE.out, ansE_step HROWS.out HRM.out HBK.out HNE.out⟩
  clear hwn
  obtain ⟨c0, c1, c2, c3, c4, c5⟩ := HO4.out.fst
  go_wp2_with fail
  refine (ans_any HT1.out a HAK.out).mono ?_
  rw [← HR0.out, ← HW0.out, ← HE0.out, ← HLA.out]
  rintro e w6 ⟨rfl, Qa, hta, hca, hqa⟩
  unfold ansV
  have hba : Below w6.heap.size w6 (w6.alloc (.cells #[.int .i64 R0.a, .int .i64 R0.b, .int .i64 R0.c, .int .i64 R0.d, .bool W0, .int .i64 E0] 61)) := (Below.refl _ _).alloc (Nat.le_refl _) _
  have HTA := hid (hta.below hba)
  have HCA : Hid (Chg (five p) w5 (w6.alloc (.cells #[.int .i64 R0.a, .int .i64 R0.b, .int .i64 R0.c, .int .i64 R0.d, .bool W0, .int .i64 E0] 61)) (five p)) := hca.step_below hba
  have HQA := hid hqa
  have HA0 := hid (AnsAt.new w6 R0 W0 E0)
  have HS6 := hid hca.size
  obtain ⟨X0, HX0⟩ : ∃ X, Hid (X = w6.heap.size) := ⟨_, rfl⟩
  rw [← HX0.out] at HA0
  have HF1 : Hid (∀ k, k < w1.heap.size ∨ w3.heap.size ≤ k → k ∉ five p) := fun k hk hm => by
    obtain ⟨i, hi, rfl⟩ := mem_five.1 hm
    have := HP1.out i hi; omega
  have HF2 : Hid (∀ k, k < w3.heap.size ∨ w5.heap.size ≤ k → k ∉ five p2) := fun k hk hm => by
    obtain ⟨i, hi, rfl⟩ := mem_five.1 hm
    have := HP2.out i hi; omega
  have HOA : Hid (Two7 (w6.alloc (.cells #[.int .i64 R0.a, .int .i64 R0.b, .int .i64 R0.c, .int .i64 R0.d, .bool W0, .int .i64 E0] 61)) w.heap.size a b) := HO4.out.keep (HCA.out.block _ HO4.out.lt (HF1.out _ (.inl HNB.out)))
  have HT2A : Hid (Tab (w6.alloc (.cells #[.int .i64 R0.a, .int .i64 R0.b, .int .i64 R0.c, .int .i64 R0.d, .bool W0, .int .i64 E0] 61)) T2 p2 Q2 most 2 l) := HT2.out.chg HCA.out (HF1.out _ (.inr (by have := HTT2.out; omega))) (fun i hi => HF1.out _ (.inr (HP2.out i hi).1)) (fun k hk hq => by
    obtain ⟨i, hi, rfl⟩ := mem_five.1 hk
    have := (HP1.out i hi).2
    have := (HQU2.out _ hq).1
    omega)
  obtain ⟨wA, HWW⟩ : ∃ W, Hid (W = w6.alloc (.cells #[.int .i64 R0.a, .int .i64 R0.b, .int .i64 R0.c, .int .i64 R0.d, .bool W0, .int .i64 E0] 61)) := ⟨_, rfl⟩
  clear hta hca hqa hba c0 c1 c2 c3 c4 c5
  obtain ⟨c0, c1, c2, c3, c4, c5⟩ := HOA.out.snd
  go_wp2_with fail
  rw [← HWW.out] at HTA HCA HA0 HOA HT2A ⊢
  rw [← HX0.out]
  refine (ans_any HTA.out b HBK.out).mono ?_
  rw [HG1.out.1, HG1.out.2.1, HG1.out.2.2, ← HLZ.out]
  rintro e w7 ⟨rfl, Qb, htb, hcb, hqb⟩
  unfold ansV
  have hbb : Below w7.heap.size w7 (w7.alloc (.cells #[.int .i64 R1.a, .int .i64 R1.b, .int .i64 R1.c, .int .i64 R1.d, .bool W1, .int .i64 E1] 61)) := (Below.refl _ _).alloc (Nat.le_refl _) _
  obtain ⟨wB, HWB⟩ : ∃ W, Hid (W = w7.alloc (.cells #[.int .i64 R1.a, .int .i64 R1.b, .int .i64 R1.c, .int .i64 R1.d, .bool W1, .int .i64 E1] 61)) := ⟨_, rfl⟩
  obtain ⟨X1, HX1⟩ : ∃ X, Hid (X = w7.heap.size) := ⟨_, rfl⟩
  have HTB : Hid (Tab wB T p Qb most 2 lz) := by rw [HWB.out]; exact htb.below hbb
  have HCB : Hid (Chg (five p) wA wB (five p)) := by rw [HWB.out]; exact hcb.step_below hbb
  have HQB := hid hqb
  have HA1 : Hid (AnsAt wB X1 R1 W1 E1) := by rw [HWB.out, HX1.out]; exact AnsAt.new w7 R1 W1 E1
  have HS7 := hid hcb.size
  have HX0G : Hid (w5.heap.size ≤ X0) := by show _ ≤ _; rw [HX0.out]; exact HS6.out
  have HA0B : Hid (AnsAt wB X0 R0 W0 E0) := HA0.out.keep (HCB.out.block _ HA0.out.lt (HF1.out _ (.inr (by have := HX0G.out; have := HLT.out; omega))))
  have HOB : Hid (Two7 wB w.heap.size a b) := HOA.out.keep (HCB.out.block _ HOA.out.lt (HF1.out _ (.inl HNB.out)))
  have HT2B : Hid (Tab wB T2 p2 Q2 most 2 l) := HT2A.out.chg HCB.out (HF1.out _ (.inr (by have := HTT2.out; omega))) (fun i hi => HF1.out _ (.inr (HP2.out i hi).1)) (fun k hk hq => by
    obtain ⟨i, hi, rfl⟩ := mem_five.1 hk
    have := (HP1.out i hi).2
    have := (HQU2.out _ hq).1
    omega)
  have HX1G : Hid (w5.heap.size ≤ X1) := by
    show _ ≤ _
    rw [HX1.out]
    exact Nat.le_trans HCA.out.size HS7.out
  clear htb hcb hqb hbb c0 c1 c2 c3 c4 c5
  obtain ⟨c0, c1, c2, c3, c4, c5⟩ := HOB.out.snd
  rw [HWB.out] at c0 c1 c2 c3 c4 c5
  go_wp2_with fail
  rw [← HWB.out, ← HX1.out]
  clear c0 c1 c2 c3 c4 c5
  refine (ans_any HT2B.out b HBK.out).mono ?_
  rw [← HR1.out, ← HW1.out, ← HE1.out, ← HLB.out]
  rintro e w8 ⟨rfl, Qc, htc, hcc, hqc⟩
  unfold ansV
  have hbc : Below w8.heap.size w8 (w8.alloc (.cells #[.int .i64 R1.a, .int .i64 R1.b, .int .i64 R1.c, .int .i64 R1.d, .bool W1, .int .i64 E1] 61)) := (Below.refl _ _).alloc (Nat.le_refl _) _
  obtain ⟨wC, HWC⟩ : ∃ W, Hid (W = w8.alloc (.cells #[.int .i64 R1.a, .int .i64 R1.b, .int .i64 R1.c, .int .i64 R1.d, .bool W1, .int .i64 E1] 61)) := ⟨_, rfl⟩
  obtain ⟨X2, HX2⟩ : ∃ X, Hid (X = w8.heap.size) := ⟨_, rfl⟩
  have HTC : Hid (Tab wC T2 p2 Qc most 2 lb) := by rw [HWC.out]; exact htc.below hbc
  have HCC : Hid (Chg (five p2) wB wC (five p2)) := by rw [HWC.out]; exact hcc.step_below hbc
  have HA2 : Hid (AnsAt wC X2 R1 W1 E1) := by rw [HWC.out, HX2.out]; exact AnsAt.new w8 R1 W1 E1
  have HS8 := hid hcc.size
  have HA0C : Hid (AnsAt wC X0 R0 W0 E0) := HA0B.out.keep (HCC.out.block _ HA0B.out.lt (HF2.out _ (.inr HX0G.out)))
  have HA1C : Hid (AnsAt wC X1 R1 W1 E1) := HA1.out.keep (HCC.out.block _ HA1.out.lt (HF2.out _ (.inr HX1G.out)))
  have HOC : Hid (Two7 wC w.heap.size a b) := HOB.out.keep (HCC.out.block _ HOB.out.lt (HF2.out _ (.inl (by have := HNB.out; have := HLT.out; omega))))
  have HQT : Hid (∀ k ∈ five p2, ¬ Qb k) := fun k hk hq => by
    obtain ⟨i, hi, rfl⟩ := mem_five.1 hk
    have h5 := HP2.out i hi
    rcases HQB.out _ hq with hq | hq
    · rcases HQA.out _ hq with hq | hq
      · have := HQU1.out _ hq; omega
      · omega
    · have := HCA.out.size; omega
  have HT1C : Hid (Tab wC T p Qb most 2 lz) := HTB.out.chg HCC.out (HF2.out _ (.inl HLT.out.1)) (fun i hi => HF2.out _ (.inl (HP1.out i hi).2)) HQT.out
  have HX2G : Hid (w5.heap.size ≤ X2) := by
    show _ ≤ _
    rw [HX2.out]
    exact Nat.le_trans HCA.out.size (Nat.le_trans HCB.out.size HS8.out)
  clear htc hcc hqc hbc
  obtain ⟨c0, c1, c2, c3, c4, c5⟩ := HOC.out.fst
  rw [HWC.out] at c0 c1 c2 c3 c4 c5
  go_wp2_with fail
  rw [← HWC.out, ← HX2.out]
  clear c0 c1 c2 c3 c4 c5
  refine (ans_any HTC.out a HAK.out).mono ?_
  rw [HG0.out.1, HG0.out.2.1, HG0.out.2.2, HSW.out]
  rintro e w9 ⟨rfl, Qd, htd, hcd, hqd⟩
  unfold ansV
  have hbd : Below w9.heap.size w9 (w9.alloc (.cells #[.int .i64 R0.a, .int .i64 R0.b, .int .i64 R0.c, .int .i64 R0.d, .bool W0, .int .i64 E0] 61)) := (Below.refl _ _).alloc (Nat.le_refl _) _
  obtain ⟨wD, HWD⟩ : ∃ W, Hid (W = w9.alloc (.cells #[.int .i64 R0.a, .int .i64 R0.b, .int .i64 R0.c, .int .i64 R0.d, .bool W0, .int .i64 E0] 61)) := ⟨_, rfl⟩
  have HTD : Hid (Tab wD T2 p2 Qd most 2 lz) := by rw [HWD.out]; exact htd.below hbd
  have HCD : Hid (Chg (five p2) wC wD (five p2)) := by rw [HWD.out]; exact hcd.step_below hbd
  have HA3 : Hid (AnsAt wD w9.heap.size R0 W0 E0) := by rw [HWD.out]; exact AnsAt.new w9 R0 W0 E0
  have HA0D : Hid (AnsAt wD X0 R0 W0 E0) := HA0C.out.keep (HCD.out.block _ HA0C.out.lt (HF2.out _ (.inr HX0G.out)))
  have HA1D : Hid (AnsAt wD X1 R1 W1 E1) := HA1C.out.keep (HCD.out.block _ HA1C.out.lt (HF2.out _ (.inr HX1G.out)))
  have HA2D : Hid (AnsAt wD X2 R1 W1 E1) := HA2.out.keep (HCD.out.block _ HA2.out.lt (HF2.out _ (.inr HX2G.out)))
  have HT1D : Hid (Tab wD T p Qb most 2 lz) := HT1C.out.chg HCD.out (HF2.out _ (.inl HLT.out.1)) (fun i hi => HF2.out _ (.inl (HP1.out i hi).2)) HQT.out
  have HALL : Hid (Below w.heap.size w wD) := by
    have k1 : Chg [] w1 wD (five p ++ five p2) := (((HC4.out.trans (HCA.out.wide2 fun k hk => List.mem_append_left _ hk)).trans (HCB.out.wide2 fun k hk => List.mem_append_left _ hk)).trans (HCC.out.wide2 fun k hk => List.mem_append_right _ hk)).trans (HCD.out.wide2 fun k hk => List.mem_append_right _ hk)
    exact below_step HBA.out (k1.below (fun _ h => by cases h) (Nat.le_refl _))
  obtain ⟨⟨x0, x1, x2, x3, x4, x5⟩, -⟩ := HA0D.out.six
  obtain ⟨⟨y0, y1, y2, y3, y4, y5⟩, -⟩ := HA1D.out.six
  obtain ⟨⟨z0, z1, z2, z3, z4, z5⟩, -⟩ := HA2D.out.six
  obtain ⟨⟨u0, u1, u2, u3, u4, u5⟩, -⟩ := HA3.out.six
  have q0 := eq_four9 R0.a R0.b R0.c R0.d
  have q1 := eq_four9 R1.a R1.b R1.c R1.d
  rw [HWD.out] at x0 x1 x2 x3 x4 x5 y0 y1 y2 y3 y4 y5 z0 z1 z2 z3 z4 z5 u0 u1 u2 u3 u4 u5
  clear htd hcd hqd hbd
  go_wp2_with fail
  rw [← HWD.out]
  refine (tsame_any HT1D.out HTD.out).mono ?_
  rw [sameL_refl]
  rintro e w10 ⟨rfl, hb10⟩
  have HB10 := hid hb10
  clear hb10 x0 x1 x2 x3 x4 x5 y0 y1 y2 y3 y4 y5 z0 z1 z2 z3 z4 z5 u0 u1 u2 u3 u4 u5
  go_wp2_with fail
  refine (check_yes (HT1D.out.below HB10.out)).mono ?_
  rintro e w11 ⟨rfl, hb11⟩
  have HB11 := hid (below_step HB10.out hb11)
  clear hb11
  go_wp2_with fail
  refine (check_yes (HTD.out.below HB11.out)).mono ?_
  rintro e w12 ⟨rfl, hb12⟩
  have HB12 := hid (below_step HB11.out hb12)
  clear hb12
  go_wp2_with fail
  refine (awake_any _).mono ?_
  rintro e w13 ⟨rfl, hb13⟩
  go_wp2
  go_ret
  exact ⟨rfl, below_step (below_step HALL.out HB12.out) hb13⟩
theorem tablecommutes_any (w : World) (n : Int) (v : Value) (os : List Op7) (hv : Elems 6 cOp w v os) (hos : OpsOk os) (a b : Op7) (ha : a.Ok) (hb : b.Ok) : Calls Try.prog 7 #[.int .i64 n, v, opV2 a b] w (Yes w) := by
  by_cases hn : 1 ≤ n ∧ n ≤ 1024
  · have hr : rightB n = true := decide_eq_true hn
    cases hf : few7 os with
    | false => exact comm_e2 w n v a b os hv hr hf
    | true =>
      by_cases hk : 100 < a.key.length
      · exact comm_e3 w n v a b os hv hr hf hk
      · by_cases hk2 : 100 < b.key.length
        · exact comm_e4 w n v a b os hv hr hf hk hk2
        · by_cases hne : a.key = b.key
          · exact comm_e5 w n v a b os hv hr hf ha hb hk hk2 hne
          · obtain ⟨k, rfl⟩ : ∃ k : Nat, n = (k : Int) := ⟨n.toNat, by omega⟩
            exact comm_ok w k (by omega) (by omega) v os hv hos a b ha hb hk hk2 hne hf
  · exact comm_e1 w n v a b (decide_eq_false hn)
end Go.Proofs.Ytlnagdodnkhbmaa

