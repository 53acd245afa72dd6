/- TablePrefix. -/
import Derived.Test.YtaineeappnlbfaaT26
namespace Go.Proofs.Ytaineeappnlbfaa
open Go.RowKit
set_option maxRecDepth 100000
theorem telem : Try.prog.elem 50 = 9 := by kernel_rfl
theorem tsize (W : World) : (sizeOf 9).run Try.prog W = .ok 1 W := by kernel_rfl
theorem tcut_to (W : World) (A : Option Addr) (len cap h : Nat) (hh : h ≤ cap) : (Instr.slice 50 (.slice A len cap) none (some (.int .i64 (h : Int))) none).run Try.prog W = .ok (sliced A 0 h cap 1) W := by
  have e := run_slice_h (P := Try.prog) (w := W) 50 A len cap (by rw [telem]; exact Try.underlying50) .i64 (h : Int) (by omega) (by omega)
  rw [telem, tsize] at e
  simpa [Result.andThen] using e
theorem tmin (W : World) (m n : Nat) : (Builtin.min_ #[3, 3] 3 #[.int .i64 (m : Int), .int .i64 (n : Int)]).run Try.prog W = .ok (.int .i64 ((min m n : Nat) : Int)) W := by
  have : (if (n : Int) < (m : Int) then (n : Int) else (m : Int)) = ((min m n : Nat) : Int) := by split <;> omega
  rw [← this]
  rfl
theorem prefix_e1 (w : World) (n : Int) (v : Value) (a : Ask7) (h : rightB n = false) : Calls Try.prog 10 #[.int .i64 n, v, askV a] w (Yes w) := by
  obtain ⟨wa, HWA⟩ : ∃ wa, Hid (wa = w.alloc (.cells #[.int .i64 a.c, .int .i64 a.lo, .int .i64 a.hi, .int .i64 a.m] 48)) := ⟨_, rfl⟩
  have HBA : Hid (Below w.heap.size w wa) := by rw [HWA.out]; exact (Below.refl _ _).alloc (Nat.le_refl _) _
  have HAA : Hid (AskAt wa w.heap.size a) := by rw [HWA.out]; exact AskAt.new w a _
  unfold askV
  go_enter Try.func10, Try.ntmps10
  go_wp2_with fail
  rw [← HWA.out]
  refine (right_any wa n).mono ?_
  rw [h]
  rintro e w1 ⟨rfl, rfl⟩
  go_wp2_with fail
  refine (awake_any _).mono ?_
  rintro e w9 ⟨rfl, hb9⟩
  go_wp2
  go_ret
  exact ⟨rfl, below_step HBA.out hb9⟩
theorem prefix_e2 (w : World) (n : Int) (v : Value) (os : List Op7) (hv : Elems 6 cOp w v os) (a : Ask7) (h : rightB n = true) (hf : few7 os = false) : Calls Try.prog 10 #[.int .i64 n, v, askV a] w (Yes w) := by
  obtain ⟨wa, HWA⟩ : ∃ wa, Hid (wa = w.alloc (.cells #[.int .i64 a.c, .int .i64 a.lo, .int .i64 a.hi, .int .i64 a.m] 48)) := ⟨_, rfl⟩
  have HBA : Hid (Below w.heap.size w wa) := by rw [HWA.out]; exact (Below.refl _ _).alloc (Nat.le_refl _) _
  have HAA : Hid (AskAt wa w.heap.size a) := by rw [HWA.out]; exact AskAt.new w a _
  have HV := hid (hv.below HBA.out)
  unfold askV
  clear hv
  go_enter Try.func10, Try.ntmps10
  go_wp2_with fail
  rw [← HWA.out]
  refine (right_any wa n).mono ?_
  rw [h]
  rintro e w1 ⟨rfl, rfl⟩
  go_wp2_with fail
  refine (few7_any _ v os HV.out).mono ?_
  rw [hf]
  rintro e w2 ⟨rfl, rfl⟩
  go_wp2_with fail
  refine (awake_any _).mono ?_
  rintro e w9 ⟨rfl, hb9⟩
  go_wp2
  go_ret
  exact ⟨rfl, below_step HBA.out hb9⟩
theorem prefix_e3 (w : World) (n : Int) (v : Value) (os : List Op7) (hv : Elems 6 cOp w v os) (a : Ask7) (h : rightB n = true) (hf : few7 os = true) (hm : a.m < 0) : Calls Try.prog 10 #[.int .i64 n, v, askV a] w (Yes w) := by
  obtain ⟨wa, HWA⟩ : ∃ wa, Hid (wa = w.alloc (.cells #[.int .i64 a.c, .int .i64 a.lo, .int .i64 a.hi, .int .i64 a.m] 48)) := ⟨_, rfl⟩
  have HBA : Hid (Below w.heap.size w wa) := by rw [HWA.out]; exact (Below.refl _ _).alloc (Nat.le_refl _) _
  have HAA : Hid (AskAt wa w.heap.size a) := by rw [HWA.out]; exact AskAt.new w a _
  have HV := hid (hv.below HBA.out)
  unfold askV
  clear hv
  go_enter Try.func10, Try.ntmps10
  go_wp2_with fail
  rw [← HWA.out]
  refine (right_any wa n).mono ?_
  rw [h]
  rintro e w1 ⟨rfl, rfl⟩
  obtain ⟨a0, a1, a2, a3⟩ := HAA.out
  go_wp2_with fail
  refine (few7_any _ v os HV.out).mono ?_
  rw [hf]
  rintro e w2 ⟨rfl, rfl⟩
  go_wp2_with fail
  refine (awake_any _).mono ?_
  rintro e w9 ⟨rfl, hb9⟩
  go_wp2
  go_ret
  exact ⟨rfl, below_step HBA.out hb9⟩
/-- What Find tells where it cannot. -/
def NoFind (w : World) (e : Ending) (w' : World) : Prop := e = .returned (.tuple #[.slice none 0 0, .int .i64 10]) ∧ Below w.heap.size w w'
theorem find_bad (w : World) (T : Nat) (a : Ask7) (ha : a.Ok) (m : Int) (h : a.c < 0 ∨ 3 < a.c ∨ a.hi < a.lo) : Calls Try.prog 22 #[.pointer (some ⟨T, 0, none⟩), .int .i64 a.c, .int .i64 a.lo, .int .i64 a.hi, .int .i64 m] w (NoFind w) := by
  by_cases h0 : a.c < 0
  · exact tfind_col T a.c a.lo a.hi m ha.lo ha.hi (.inl h0)
  · by_cases h3 : 3 < a.c
    · exact tfind_col T a.c a.lo a.hi m ha.lo ha.hi (.inr ⟨by omega, by omega⟩)
    · have := tfind_range (w := w) T a.c.toNat (by omega) a.lo a.hi m (by omega)
      rwa [show ((a.c.toNat : Nat) : Int) = a.c by omega] at this
theorem prefix_bad (w : World) (most : Nat) (h1 : 1 ≤ most) (h2 : most ≤ 1024) (v : Value) (os : List Op7) (hv : Elems 6 cOp w v os) (hos : OpsOk os) (a : Ask7) (ha : a.Ok) (hf : few7 os = true) (hm : ¬ a.m < 0) (hbad : a.c < 0 ∨ 3 < a.c ∨ a.hi < a.lo) : Calls Try.prog 10 #[.int .i64 (most : Int), v, askV a] w (Yes w) := by
  obtain ⟨wa, HWA⟩ : ∃ wa, Hid (wa = w.alloc (.cells #[.int .i64 a.c, .int .i64 a.lo, .int .i64 a.hi, .int .i64 a.m] 48)) := ⟨_, rfl⟩
  have HBA : Hid (Below w.heap.size w wa) := by rw [HWA.out]; exact (Below.refl _ _).alloc (Nat.le_refl _) _
  have HAA : Hid (AskAt wa w.heap.size a) := by rw [HWA.out]; exact AskAt.new w a _
  have HV := hid (hv.below HBA.out)
  have HBAD := hid hbad
  have HR : Hid (rightB (most : Int) = true) := decide_eq_true (by omega)
  unfold askV
  clear hv hbad
  go_enter Try.func10, Try.ntmps10
  go_wp2_with fail
  rw [← HWA.out]
  refine (right_any wa _).mono ?_
  rw [HR.out]
  rintro e w1 ⟨rfl, rfl⟩
  obtain ⟨a0, a1, a2, a3⟩ := HAA.out
  go_wp2_with fail
  refine (few7_any _ v os HV.out).mono ?_
  rw [hf]
  rintro e w2 ⟨rfl, rfl⟩
  go_wp2_with fail
  refine (made_any _ most h1 h2 v os HV.out hos).mono ?_
  rintro e w3 ⟨p, Q, G, rp, rfl, hst⟩
  have HB3 := hid hst.since
  clear hst a0 a1 a2 a3
  obtain ⟨a0, a1, a2, a3⟩ := HAA.out.below HB3.out
  go_wp2_with fail
  refine (find_bad w3 _ a ha a.m HBAD.out).mono ?_
  rintro e w4 ⟨rfl, hb4⟩
  have HB4 := hid (below_step HB3.out hb4)
  clear hb4 a0 a1 a2 a3
  obtain ⟨a0, a1, a2, a3⟩ := HAA.out.below HB4.out
  go_wp2_with fail
  refine (find_bad w4 _ a ha 2000 HBAD.out).mono ?_
  rintro e w5 ⟨rfl, hb5⟩
  have HB5 := hid (below_step HB4.out hb5)
  clear hb5
  go_wp2_with fail
  refine (awake_any _).mono ?_
  rintro e w9 ⟨rfl, hb9⟩
  go_wp2
  go_ret
  exact ⟨rfl, below_step (below_step HBA.out HB5.out) hb9⟩
theorem prefix_ok (w : World) (most : Nat) (h1 : 1 ≤ most) (h2 : most ≤ 1024) (v : Value) (os : List Op7) (hv : Elems 6 cOp w v os) (hos : OpsOk os) (c : Nat) (hc4 : c < 4) (lo hi : Int) (hlo : I64 lo) (hhi : I64 hi) (hle : lo ≤ hi) (m : Nat) (hm : m ≤ 9223372036854775807) (hf : few7 os = true) :
    Calls Try.prog 10 #[.int .i64 (most : Int), v, .agg #[.int .i64 (c : Int), .int .i64 lo, .int .i64 hi, .int .i64 (m : Int)]] w (Yes w) := by
  obtain ⟨a, HA⟩ : ∃ a : Ask7, Hid (a = ⟨(c : Int), lo, hi, (m : Int)⟩) := ⟨_, rfl⟩
  obtain ⟨wa, HWA⟩ : ∃ wa, Hid (wa = w.alloc (.cells #[.int .i64 (c : Int), .int .i64 lo, .int .i64 hi, .int .i64 (m : Int)] 48)) := ⟨_, rfl⟩
  have HBA : Hid (Below w.heap.size w wa) := by rw [HWA.out]; exact (Below.refl _ _).alloc (Nat.le_refl _) _
  have HAA : Hid (AskAt wa w.heap.size a) := by rw [HWA.out, HA.out]; exact AskAt.new w ⟨(c : Int), lo, hi, (m : Int)⟩ _
  have HASK : Hid (∀ W, Below wa.heap.size wa W → W.cell? ⟨w.heap.size, 0, none⟩ = some (.int .i64 (c : Int)) ∧ W.cell? ⟨w.heap.size, 1, none⟩ = some (.int .i64 lo) ∧ W.cell? ⟨w.heap.size, 2, none⟩ = some (.int .i64 hi) ∧ W.cell? ⟨w.heap.size, 3, none⟩ = some (.int .i64 (m : Int))) := fun W hb => by
    have := HAA.out.below hb
    rw [HA.out] at this
    exact this
  have HV := hid (hv.below HBA.out)
  have HR : Hid (rightB (most : Int) = true) := decide_eq_true (by omega)
  have hmi : ¬ (m : Int) < 0 := by omega
  clear hv
  go_enter Try.func10, Try.ntmps10
  go_wp2_with fail
  rw [← HWA.out]
  refine (right_any wa _).mono ?_
  rw [HR.out]
  rintro e w1 ⟨rfl, rfl⟩
  obtain ⟨a0, a1, a2, a3⟩ := HASK.out _ (Below.refl _ _)
  go_wp2_with fail
  refine (few7_any _ v os HV.out).mono ?_
  rw [hf]
  rintro e w2 ⟨rfl, rfl⟩
  go_wp2_with fail
  refine (made_any _ most h1 h2 v os HV.out hos).mono ?_
  rintro e w3 ⟨p, Q, G, rp, rfl, hst⟩
  have HB3 := hid hst.since
  have HT := hid hst.t
  obtain ⟨l, HL⟩ : ∃ l, Hid (l = runK most [] os) := ⟨_, rfl⟩
  rw [← HL.out] at HT
  have HROWS := hid HT.out.rows
  have HLE := hid HT.out.le
  clear hst a0 a1 a2 a3
  obtain ⟨a0, a1, a2, a3⟩ := HASK.out _ HB3.out
  go_wp2_with fail
  refine (tfind HT.out c hc4 lo hi m hlo hhi hle hm).mono ?_
  rintro e w4 ⟨v1, rfl, ho1, hb4⟩
  have HB4 := hid (below_step HB3.out hb4)
  have HT4 := hid (HT.out.below hb4)
  have HO1 := hid ho1.rows
  clear hb4 a0 a1 a2 a3 ho1
  obtain ⟨a0, a1, a2, a3⟩ := HASK.out _ HB4.out
  have HF2 : Hid (Calls Try.prog 22 #[.pointer (some ⟨w1.heap.size, 0, none⟩), .int .i64 (c : Int), .int .i64 lo, .int .i64 hi, .int .i64 2000] w4 (FindEnd w4 (findL c lo hi 2000 l))) := tfind HT4.out c hc4 lo hi 2000 hlo hhi hle (by omega)
  go_wp2_with fail
  refine HF2.out.mono ?_
  rintro e w5 ⟨v2, rfl, ho2, hb5⟩
  have HB5 := hid (below_step HB4.out hb5)
  have HT5 := hid (HT4.out.below hb5)
  have HO1' := hid (HO1.out.below hb5)
  have HO2 := hid ho2.rows
  clear hb5 a0 a1 a2 a3 ho2
  obtain ⟨a0, a1, a2, a3⟩ := HASK.out _ HB5.out
  obtain ⟨M, HM⟩ : ∃ M, Hid (M = (tellK c lo hi l).map Prod.fst) := ⟨_, rfl⟩
  have HML : Hid (M.length ≤ 1024) := by show _ ≤ _; rw [HM.out, List.length_map]; have := tellK_len HROWS.out c lo hi; have := HLE.out; omega
  have HE1 : Hid (findL c lo hi m l = M.take m) := by show _ = _; rw [HM.out]; rfl
  have HE2 : Hid (findL c lo hi 2000 l = M) := by
    show _ = _
    have := HML.out
    unfold findL
    rw [← HM.out, List.take_of_length_le (by omega)]
  rw [HE1.out] at HO1'
  rw [HE2.out] at HO2
  obtain ⟨A1, cap1, hv1⟩ := HO1'.out.slice
  obtain ⟨A2, cap2, hv2⟩ := HO2.out.slice
  subst hv1; subst hv2
  obtain ⟨n1, HN1⟩ : ∃ n, Hid (n = (M.take m).length) := ⟨_, rfl⟩
  obtain ⟨n2, HN2⟩ : ∃ n, Hid (n = M.length) := ⟨_, rfl⟩
  have HN : Hid (n1 = min m n2) := by show _ = _; rw [HN1.out, HN2.out, List.length_take]
  have hn2 : n2 ≤ 1024 := by rw [HN2.out]; exact HML.out
  have HMB : Hid (∀ x ∈ M, Byt x) := fun x hx => by
    rw [HM.out] at hx
    obtain ⟨q, hq, rfl⟩ := List.mem_map.1 hx
    exact HROWS.out.byt q ((tellK_mem HROWS.out).1 hq).1
  have HTK : Hid (M.take n1 = M.take m) := by
    show _ = _
    rw [HN.out, HN2.out]
    rcases Nat.le_total m M.length with h | h
    · rw [Nat.min_eq_left h]
    · rw [Nat.min_eq_right h, List.take_of_length_le (Nat.le_refl _), List.take_of_length_le h]
  rw [← HN1.out] at HO1' ⊢
  rw [← HN2.out] at HO2 ⊢
  obtain ⟨VA, HVA⟩ : ∃ V, Hid (V = sliced A2 0 n1 cap2 1) := ⟨_, rfl⟩
  have hle : n1 ≤ M.length := by rw [HN1.out, List.length_take]; omega
  have hcap := HO2.out.cap
  have hsl : ∀ W, (Instr.slice 50 (.slice A2 n2 cap2) none (some (.int .i64 (n1 : Int))) none).run Try.prog W = .ok VA W := fun W => by rw [HVA.out]; exact tcut_to W A2 n2 cap2 n1 (by omega)
  have HVE : Hid (Elems 1 cT w5 VA (M.take m)) := by rw [HVA.out, ← HTK.out]; exact HO2.out.to_ cT_len hle
  have hmin : ∀ W, (Builtin.min_ #[3, 3] 3 #[.int .i64 (m : Int), .int .i64 (n2 : Int)]).run Try.prog W = .ok (.int .i64 (n1 : Int)) W := fun W => by rw [HN.out]; exact tmin W m n2
  clear hcap hle
  go_wp2_with fail
  refine (texts_same _ _ VA (M.take m) HO1'.out HVE.out (fun x hx => HMB.out x (List.mem_of_mem_take hx))).mono ?_
  rintro e w6 ⟨rfl, hb6⟩
  have HB6 := hid (below_step HB5.out hb6)
  have HT6 := hid (HT5.out.below hb6)
  have HO6 := hid (HO2.out.below hb6)
  clear hb6 a0 a1 a2 a3 hsl hmin
  go_wp2
  go_loopw [13] (fun i w' => ∃ j : Nat, j ≤ n2 ∧ i = .int .i64 j ∧ Below w6.heap.size w6 w') (fun i _ => n2 - (intOf i).toNat)
  case atStart => exact ⟨0, by omega, rfl, Below.refl _ _⟩
  case round =>
    obtain ⟨j, hj, rfl, hbr⟩ := hrel
    have HBR := hid hbr
    clear hbr
    by_cases hlt : j < n2
    · have hlti : (j : Int) < n2 := by omega
      obtain ⟨x, hx⟩ : ∃ x, M[j]? = some x := ⟨M[j]'(by have := HN2.out; omega), List.getElem?_eq_getElem _⟩
      obtain ⟨ad, rfl, h0⟩ := (HO6.out.below HBR.out).cell cT_len hx (j := 0) (u := .string (str x)) rfl
      rw [Nat.mul_one, Nat.add_zero] at h0
      obtain ⟨q, hq, hqx⟩ : ∃ q ∈ tellK c lo hi l, q.1 = x := by
        have := List.mem_of_getElem? hx
        rw [HM.out] at this
        exact List.mem_map.1 this
      obtain ⟨hql, hqlo, hqhi⟩ := (tellK_mem HROWS.out).1 hq
      subst hqx
      have HQB := hid (HROWS.out.byt q hql)
      have HG := hid (HROWS.out.get (k := q.1) (r := q.2) hql)
      have HKR : Hid (kgetR l q.1 = q.2) := by show _ = _; unfold kgetR; rw [if_pos (HROWS.out.key q hql), HG.out]; rfl
      have HKE : Hid (kgetE l q.1 = 0) := by show _ = _; unfold kgetE; rw [if_pos (HROWS.out.key q hql), HG.out]; rfl
      obtain ⟨X, HX⟩ : ∃ X, Hid (X = q.2.at c) := ⟨_, rfl⟩
      have hd1 : decide (X < lo) = false := decide_eq_false (by rw [HX.out]; omega)
      have hd2 : decide (hi < X) = false := decide_eq_false (by rw [HX.out]; omega)
      obtain ⟨r, HRR⟩ : ∃ r, Hid (r = q.2) := ⟨_, rfl⟩
      have HCX : Hid (∀ W : World, (W.alloc (.cells #[.int .i64 r.a, .int .i64 r.b, .int .i64 r.c, .int .i64 r.d] 37)).cell? ⟨W.heap.size, c, none⟩ = some (.int .i64 X)) := fun W => by
        rw [HX.out, ← HRR.out]
        exact (Lies.new W r).cell (r.get_at hc4)
      rw [← HRR.out] at HKR
      clear hql hqlo hqhi hq hx
      go_wp2_with fail
      refine (tget (HT6.out.below HBR.out) q.1 HQB.out).mono ?_
      rw [HKR.out, HKE.out]
      rintro e w7 ⟨rfl, hb7⟩
      dsimp only [rowv, rowc]
      have hba : Below w7.heap.size w7 (w7.alloc (.cells #[.int .i64 r.a, .int .i64 r.b, .int .i64 r.c, .int .i64 r.d] 37)) := (Below.refl _ _).alloc (Nat.le_refl _) _
      have HB7 := hid (below_step (below_step HBR.out hb7) hba)
      have cx := HCX.out w7
      obtain ⟨a0, a1, a2, a3⟩ := HASK.out _ (below_step HB6.out HB7.out)
      obtain ⟨wz, HWZ⟩ : ∃ wz, Hid (wz = w7.alloc (.cells #[.int .i64 r.a, .int .i64 r.b, .int .i64 r.c, .int .i64 r.d] 37)) := ⟨_, rfl⟩
      rw [← HWZ.out] at HB7 cx a0 a1 a2 a3
      clear hb7 hba h0
      go_wp2
      rw [← HWZ.out]
      go_quiet (fail)
      go_wp2
      go_roundw
      case rel => exact ⟨j + 1, by omega, by go_num, below_drewN' HB7.out _⟩
      case measure => simp [intOf]; omega
    · obtain rfl : j = n2 := by omega
      go_wp2_with fail
      refine (awake_any _).mono ?_
      rintro e w9 ⟨rfl, hb9⟩
      go_wp2
      go_ret
      exact ⟨rfl, below_step (below_step (below_step HBA.out HB6.out) HBR.out) hb9⟩
theorem tableprefix_any (w : World) (n : Int) (v : Value) (os : List Op7) (hv : Elems 6 cOp w v os) (hos : OpsOk os) (a : Ask7) (ha : a.Ok) : Calls Try.prog 10 #[.int .i64 n, v, askV a] w (Yes w) := by
  by_cases hn : 1 ≤ n ∧ n ≤ 1024
  · have hr : rightB n = true := decide_eq_true hn
    cases hf : few7 os with
    | false => exact prefix_e2 w n v os hv a hr hf
    | true =>
      by_cases hm : a.m < 0
      · exact prefix_e3 w n v os hv a hr hf hm
      · obtain ⟨k, rfl⟩ : ∃ k : Nat, n = (k : Int) := ⟨n.toNat, by omega⟩
        by_cases hbad : a.c < 0 ∨ 3 < a.c ∨ a.hi < a.lo
        · exact prefix_bad w k (by omega) (by omega) v os hv hos a ha hf hm hbad
        · obtain ⟨c, lo, hi, m⟩ := a
          dsimp only at hm hbad
          obtain ⟨c, rfl⟩ : ∃ k : Nat, c = (k : Int) := ⟨c.toNat, by omega⟩
          obtain ⟨m, rfl⟩ : ∃ k : Nat, m = (k : Int) := ⟨m.toNat, by omega⟩
          exact prefix_ok w k (by omega) (by omega) v os hv hos c (by omega) lo hi ha.lo ha.hi (by omega) m (by have := ha.m.2; dsimp only at this; omega) hf
  · exact prefix_e1 w n v a (decide_eq_false hn)
end Go.Proofs.Ytaineeappnlbfaa
