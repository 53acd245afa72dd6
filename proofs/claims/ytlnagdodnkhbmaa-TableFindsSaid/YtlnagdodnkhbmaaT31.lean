/- TableFinds. -/
import Derived.Test.YtlnagdodnkhbmaaT26
import Derived.Test.YtlnagdodnkhbmaaT30
import Derived.Test.YtlnagdodnkhbmaaTG
namespace Go.Proofs.Ytlnagdodnkhbmaa
open Go.RowKit
set_option maxRecDepth 100000
def AskC (w : World) (b : Addr) (a : Ask7) : Prop :=
  w.cell? b = some (.int .i64 a.c) ∧ w.cell? { block := b.block, off := b.off + 1, spot := none } = some (.int .i64 a.lo) ∧ w.cell? { block := b.block, off := b.off + 2, spot := none } = some (.int .i64 a.hi) ∧ w.cell? { block := b.block, off := b.off + 3, spot := none } = some (.int .i64 a.m)
theorem Elems.askAt {w : World} {A : Option Addr} {n cap i : Nat} {l : List Ask7} {o : Ask7} (h : Elems 4 cAsk w (.slice A n cap) l) (hi : l[i]? = some o) : ∃ ad, A = some ad ∧ AskC w (ad.add (i * 4)) o := by
  obtain ⟨ad, hA, h0⟩ := h.cell cAsk_len hi (j := 0) rfl
  obtain ⟨ad1, hA1, h1⟩ := h.cell cAsk_len hi (j := 1) rfl
  obtain ⟨ad2, hA2, h2⟩ := h.cell cAsk_len hi (j := 2) rfl
  obtain ⟨ad3, hA3, h3⟩ := h.cell cAsk_len hi (j := 3) rfl
  subst hA
  injection hA1 with hA1; injection hA2 with hA2; injection hA3 with hA3
  subst hA1; subst hA2; subst hA3
  rw [add_off ad _ 0] at h1
  rw [add_off ad _ 1] at h2
  rw [add_off ad _ 2] at h3
  exact ⟨ad, rfl, h0, h1, h2, h3⟩
theorem finds7_e1 (w : World) (n : Int) (v v2 : Value) (h : rightB n = false) : Calls Try.prog 3 #[.int .i64 n, v, v2] w (Yes w) := by
  go_enter Try.func3, Try.ntmps3
  go_wp2_with fail
  refine (right_any w n).mono ?_
  rw [h]
  rintro e w1 ⟨rfl, rfl⟩
  go_wp2_with fail
  refine (awake_any _).mono ?_
  rintro e w9 ⟨rfl, hb9⟩
  go_wp2
  go_ret
  exact ⟨rfl, hb9⟩
theorem finds7_e2 (w : World) (n : Int) (v v2 : Value) (os : List Op7) (hv : Elems 6 cOp w v os) (h : rightB n = true) (hf : few7 os = false) : Calls Try.prog 3 #[.int .i64 n, v, v2] w (Yes w) := by
  go_enter Try.func3, Try.ntmps3
  go_wp2_with fail
  refine (right_any w n).mono ?_
  rw [h]
  rintro e w1 ⟨rfl, rfl⟩
  go_wp2_with fail
  refine (few7_any _ v os hv).mono ?_
  rw [hf]
  rintro e w2 ⟨rfl, rfl⟩
  go_wp2_with fail
  refine (awake_any _).mono ?_
  rintro e w9 ⟨rfl, hb9⟩
  go_wp2
  go_ret
  exact ⟨rfl, hb9⟩
theorem finds7_e3 (w : World) (n : Int) (v v2 : Value) (os : List Op7) (hv : Elems 6 cOp w v os) (qs : List Ask7) (hv2 : Elems 4 cAsk w v2 qs) (h : rightB n = true) (hf : few7 os = true) (hm : 20 < qs.length) : Calls Try.prog 3 #[.int .i64 n, v, v2] w (Yes w) := by
  obtain ⟨A, cap, rfl⟩ := hv2.slice
  obtain ⟨len, HLEN⟩ : ∃ len, Hid (len = qs.length) := ⟨_, rfl⟩
  have hmi : (20 : Int) < (len : Int) := by have := HLEN.out; omega
  rw [← HLEN.out]
  clear hm hv2
  go_enter Try.func3, Try.ntmps3
  go_wp2_with fail
  refine (right_any w n).mono ?_
  rw [h]
  rintro e w1 ⟨rfl, rfl⟩
  go_wp2_with fail
  refine (few7_any _ v os hv).mono ?_
  rw [hf]
  rintro e w2 ⟨rfl, rfl⟩
  go_wp2_with fail
  refine (awake_any _).mono ?_
  rintro e w9 ⟨rfl, hb9⟩
  go_wp2
  go_ret
  exact ⟨rfl, hb9⟩
set_option maxHeartbeats 2000000 in
theorem finds7_ok (w : World) (most : Nat) (h1 : 1 ≤ most) (h2 : most ≤ 1024) (v v2 : Value) (os : List Op7) (hv : Elems 6 cOp w v os) (hos : OpsOk os) (qs : List Ask7) (hv2 : Elems 4 cAsk w v2 qs) (has : AsksOk qs) (hf : few7 os = true) (hm : qs.length ≤ 20) : Calls Try.prog 3 #[.int .i64 (most : Int), v, v2] w (Yes w) := by
  have HR : Hid (rightB (most : Int) = true) := decide_eq_true (by omega)
  obtain ⟨A2, cap2, rfl⟩ := hv2.slice
  obtain ⟨len2, HLEN2⟩ : ∃ len, Hid (len = qs.length) := ⟨_, rfl⟩
  obtain ⟨A1, cap1, rfl⟩ := hv.slice
  obtain ⟨len, HLEN⟩ : ∃ len, Hid (len = os.length) := ⟨_, rfl⟩
  have hl100 : len ≤ 100 := by rw [HLEN.out]; exact (few7_yes hf).2
  have hl20 : len2 ≤ 20 := by rw [HLEN2.out]; exact hm
  have hmi : ¬ (20 : Int) < (len2 : Int) := by omega
  have HV := hid hv
  have HV2 := hid hv2
  have HOS := hid hos
  have HAS := hid has
  have HF := hid hf
  rw [← HLEN.out] at HV ⊢
  rw [← HLEN2.out] at HV2 ⊢
  clear hm hv2 hv hos has hf
  go_enter Try.func3, Try.ntmps3
  go_wp2_with fail
  refine (right_any w _).mono ?_
  rw [HR.out]
  rintro e w1 ⟨rfl, rfl⟩
  go_wp2_with fail
  refine (few7_any _ _ os HV.out).mono ?_
  rw [HF.out]
  rintro e w2 ⟨rfl, rfl⟩
  go_wp2_with fail
  refine (made_any _ most h1 h2 (.slice none 0 0) [] (Elems.nil 6 cOp _) ⟨by simp⟩).mono ?_
  rintro e w3 ⟨p, Q, G, rp, rfl, hst⟩
  have HST := hid hst
  clear hst
  obtain ⟨T, HT⟩ : ∃ T, Hid (T = w1.heap.size) := ⟨_, rfl⟩
  rw [← HT.out] at HST ⊢
  go_wp2
  go_loopw [9] (fun i wr => ∃ k : Nat, k ≤ len ∧ i = .int .i64 k ∧ ∃ Q G, St w1 wr T p Q most 2 G rp (runK most [] (os.take k))) (fun i _ => len - (intOf i).toNat)
  case atStart => exact ⟨0, by omega, rfl, Q, _, HST.out⟩
  case round =>
    obtain ⟨k, hk, rfl, Q', G', hst⟩ := hrel
    have HS := hid hst
    by_cases hlt : k < len
    · have hlti : (k : Int) < len := by omega
      obtain ⟨op, hop⟩ : ∃ op, os[k]? = some op := ⟨os[k]'(by have := HLEN.out; omega), List.getElem?_eq_getElem _⟩
      obtain ⟨ad, rfl, hat⟩ := (HV.out.below hst.since).opAt hop
      obtain ⟨hc0, hc1, hc2, hc3, hc4, hc5⟩ := hat
      have HN := hid (runK_take most [] hop)
      have HOK := hid (HOS.out.ok op (List.mem_of_getElem? hop))
      clear hst hop
      go_wp2_with fail
      refine (does_any HS.out op HOK.out).mono ?_
      rw [← HN.out]
      rintro e w4 ⟨rfl, Q2, G2, hst2⟩
      have HST2 := hid hst2
      clear hst2 hc0 hc1 hc2 hc3 hc4 hc5
      go_wp2_with fail
      refine (check_yes HST2.out.t).mono ?_
      rintro e w5 ⟨rfl, hb5⟩
      have HST5 := hid (HST2.out.below_ hb5)
      clear hb5
      go_wp2
      go_roundw
      case rel => exact ⟨k + 1, by omega, by go_num, Q2, G2, HST5.out⟩
      case measure => simp [intOf]; omega
    · obtain rfl : k = len := by omega
      obtain ⟨l, HL⟩ : ∃ l, Hid (l = runK most [] (os.take k)) := ⟨_, rfl⟩
      rw [← HL.out] at HS
      clear hst
      go_wp2
      go_loopw [10] (fun i ws => ∃ k : Nat, k ≤ len2 ∧ i = .int .i64 k ∧ St w1 ws T p Q' most 2 G' rp l) (fun i _ => len2 - (intOf i).toNat)
      case atStart => exact ⟨0, by omega, rfl, HS.out⟩
      case round =>
        obtain ⟨j, hj, rfl, hst⟩ := hrel
        have HSJ := hid hst
        by_cases hlt2 : j < len2
        · have hlti2 : (j : Int) < len2 := by omega
          obtain ⟨a, ha⟩ : ∃ a, qs[j]? = some a := ⟨qs[j]'(by have := HLEN2.out; omega), List.getElem?_eq_getElem _⟩
          obtain ⟨ad, rfl, hat⟩ := (HV2.out.below hst.since).askAt ha
          obtain ⟨hc0, hc1, hc2, hc3⟩ := hat
          have HOK := hid (HAS.out.ok a (List.mem_of_getElem? ha))
          clear hst ha
          go_wp2_with fail
          refine (finds_any HSJ.out.t HSJ.out.r a HOK.out).mono ?_
          rintro e w4 ⟨rfl, hb4⟩
          have HST4 := hid (HSJ.out.below_ hb4)
          clear hb4 hc0 hc1 hc2 hc3
          go_wp2
          go_roundw
          case rel => exact ⟨j + 1, by omega, by go_num, HST4.out⟩
          case measure => simp [intOf]; omega
        · obtain rfl : j = len2 := by omega
          clear hst
          go_wp2_with fail
          refine (awake_any _).mono ?_
          rintro e w9 ⟨rfl, hb9⟩
          go_wp2
          go_ret
          exact ⟨rfl, below_step HSJ.out.since hb9⟩
theorem tablefinds_any (w : World) (n : Int) (v v2 : Value) (os : List Op7) (hv : Elems 6 cOp w v os) (hos : OpsOk os) (qs : List Ask7) (hv2 : Elems 4 cAsk w v2 qs) (has : AsksOk qs) : Calls Try.prog 3 #[.int .i64 n, v, v2] w (Yes w) := by
  by_cases hn : 1 ≤ n ∧ n ≤ 1024
  · have hr : rightB n = true := decide_eq_true hn
    cases hf : few7 os with
    | false => exact finds7_e2 w n v v2 os hv hr hf
    | true =>
      by_cases hm : 20 < qs.length
      · exact finds7_e3 w n v v2 os hv qs hv2 hr hf hm
      · obtain ⟨k, rfl⟩ : ∃ k : Nat, n = (k : Int) := ⟨n.toNat, by omega⟩
        exact finds7_ok w k (by omega) (by omega) v v2 os hv hos qs hv2 has hf (by omega)
  · exact finds7_e1 w n v v2 (decide_eq_false hn)
end Go.Proofs.Ytlnagdodnkhbmaa
