/- TableCopies. -/
import Derived.Test.YtlnagdodnkhbmaaT38
import Derived.Test.YtlnagdodnkhbmaaT36
namespace Go.Proofs.Ytlnagdodnkhbmaa
open Go.RowKit
set_option maxRecDepth 100000
theorem cop_e1 (w : World) (n : Int) (v v2 : Value) (h : rightB n = false) : Calls Try.prog 5 #[.int .i64 n, v, v2] w (Yes w) := by
  go_enter Try.func5, Try.ntmps5
  go_wp2_with fail
  refine (right_any w n).mono ?_
  rw [h]
  rintro e w1 ⟨rfl, rfl⟩
  go_wp2_with fail
  refine (awake_any _).mono ?_
  rintro e w9 ⟨rfl, hb9⟩
  go_wp2
  go_ret
  exact ⟨rfl, hb9⟩
theorem cop_e2 (w : World) (n : Int) (v v2 : Value) (os : List Op7) (hv : Elems 6 cOp w v os) (h : rightB n = true) (hf : few7 os = false) : Calls Try.prog 5 #[.int .i64 n, v, v2] w (Yes w) := by
  go_enter Try.func5, Try.ntmps5
  go_wp2_with fail
  refine (right_any w n).mono ?_
  rw [h]
  rintro e w1 ⟨rfl, rfl⟩
  go_wp2_with fail
  refine (few7_any _ v os hv).mono ?_
  rw [hf]
  rintro e w2 ⟨rfl, rfl⟩
  go_wp2_with fail
  refine (awake_any _).mono ?_
  rintro e w9 ⟨rfl, hb9⟩
  go_wp2
  go_ret
  exact ⟨rfl, hb9⟩
theorem cop_e3 (w : World) (n : Int) (v v2 : Value) (os : List Op7) (hv : Elems 6 cOp w v os) (ms : List Op7) (hv2 : Elems 6 cOp w v2 ms) (h : rightB n = true) (hf : few7 os = true) (hf2 : few7 ms = false) : Calls Try.prog 5 #[.int .i64 n, v, v2] w (Yes w) := by
  go_enter Try.func5, Try.ntmps5
  go_wp2_with fail
  refine (right_any w n).mono ?_
  rw [h]
  rintro e w1 ⟨rfl, rfl⟩
  go_wp2_with fail
  refine (few7_any _ v os hv).mono ?_
  rw [hf]
  rintro e w2 ⟨rfl, rfl⟩
  go_wp2_with fail
  refine (few7_any _ v2 ms hv2).mono ?_
  rw [hf2]
  rintro e w2 ⟨rfl, rfl⟩
  go_wp2_with fail
  refine (awake_any _).mono ?_
  rintro e w9 ⟨rfl, hb9⟩
  go_wp2
  go_ret
  exact ⟨rfl, hb9⟩
/-- A copy beside a copy of the reference. -/
theorem st_copy {w w1 w2 : World} {c : Nat} {p : Nat → Nat} {Q : Bl} {most o : Nat} {G : List Nat} {rp : Nat} {l : List KR} (ht : Tab w1 c p Q most o l) (h1 : Below w.heap.size w w1) (_hc : w.heap.size ≤ c) (hp : ∀ i, i < 5 → w.heap.size ≤ p i) (hq : Under Q w1) (hr : RTab w2 G rp most l) (h2 : Below w1.heap.size w1 w2) (hG : ∀ b ∈ G, w1.heap.size ≤ b) (hrp : w1.heap.size ≤ rp) : St w w2 c p Q most o G rp l :=
  ⟨ht.below h2, hr, fun i hi hm => by have := ht.plt hi; have := hG _ hm; omega, fun hm => by have := hq _ hm; omega, by have := ht.lt; omega,
    bel_chg (below_step h1 h2) fun k hk => by
      rcases List.mem_cons.1 hk with rfl | hk
      · exact Nat.le_trans h1.size hrp
      · obtain ⟨i, hi, rfl⟩ := mem_five.1 hk
        exact hp i hi⟩
theorem runK_ok {l : List KR} (h : RowsOk l) (most : Nat) : ∀ {os : List Op7}, OpsOk os → RowsOk (runK most l os)
  | [], _ => h
  | o :: os, ho => runK_ok (stepK_ok h most (ho.ok o List.mem_cons_self)) most (os := os) ⟨fun q hq => ho.ok q (List.mem_cons_of_mem _ hq)⟩
theorem sameL_comm {a b : List KR} (ha : RowsOk a) (hb : RowsOk b) : sameL a b = sameL b a := by
  rw [Bool.eq_iff_iff, sameL_yes ha hb, sameL_yes hb ha]
  exact ⟨Eq.symm, Eq.symm⟩
set_option maxHeartbeats 4000000 in
theorem cop_ok (w : World) (most : Nat) (h1 : 1 ≤ most) (h2 : most ≤ 1024) (v v2 : Value) (os : List Op7) (hv : Elems 6 cOp w v os) (hos : OpsOk os) (ms : List Op7) (hv2 : Elems 6 cOp w v2 ms) (hms : OpsOk ms) (hf : few7 os = true) (hf2 : few7 ms = true) : Calls Try.prog 5 #[.int .i64 (most : Int), v, v2] w (Yes w) := by
  have HR : Hid (rightB (most : Int) = true) := decide_eq_true (by omega)
  obtain ⟨A2, cap2, rfl⟩ := hv2.slice
  obtain ⟨len, HLEN⟩ : ∃ len, Hid (len = ms.length) := ⟨_, rfl⟩
  have hl100 : len ≤ 100 := by rw [HLEN.out]; exact (few7_yes hf2).2
  have HV := hid hv
  have HV2 := hid hv2
  have HOS := hid hos
  have HMS := hid hms
  have HF := hid hf
  have HF2 := hid hf2
  rw [← HLEN.out] at HV2 ⊢
  clear hv2 hv hos hms hf hf2
  go_enter Try.func5, Try.ntmps5
  go_wp2_with fail
  refine (right_any w _).mono ?_
  rw [HR.out]
  rintro e w1 ⟨rfl, rfl⟩
  go_wp2_with fail
  refine (few7_any _ _ os HV.out).mono ?_
  rw [HF.out]
  rintro e w2 ⟨rfl, rfl⟩
  go_wp2_with fail
  refine (few7_any _ _ ms HV2.out).mono ?_
  rw [HF2.out]
  rintro e w2 ⟨rfl, rfl⟩
  go_wp2_with fail
  refine (made_any _ most h1 h2 v os HV.out HOS.out).mono ?_
  rintro e w3 ⟨p, Q, G, rp, rfl, hst⟩
  obtain ⟨l, HL⟩ : ∃ l, Hid (l = runK most [] os) := ⟨_, rfl⟩
  rw [← HL.out] at hst
  have HST := hid hst
  have HROWS := hid hst.t.rows
  have HKY := hid hst.t.rows.kbyt
  have HLE := hid hst.t.le
  obtain ⟨T, HT⟩ : ∃ T, Hid (T = w1.heap.size) := ⟨_, rfl⟩
  rw [← HT.out] at HST ⊢
  clear hst
  go_wp2_with fail
  refine (tcopy HST.out.t).mono ?_
  rintro e w4 ⟨rfl, hb4, p', htc, hp'⟩
  have HB4 := hid hb4
  have HTC := hid htc
  have HP' := hid hp'
  obtain ⟨c, HC⟩ : ∃ T, Hid (T = w3.heap.size) := ⟨_, rfl⟩
  rw [← HC.out] at HTC ⊢
  have HS4 := hid (HST.out.below_ hb4)
  clear hb4 htc hp'
  have HM1 : Hid (∀ W, Below w4.heap.size w4 W → Calls Try.prog 20 #[.pointer (some ⟨c, 0, none⟩), .pointer (some ⟨rp, 0, none⟩)] W fun e w' => e = .returned (.bool true) ∧ Below W.heap.size W w') := fun W hb => same7_yes W c p' Q most 2 l G rp (HTC.out.below hb) (HS4.out.r.below hb) HKY.out
  go_wp2_with fail
  refine (HM1.out _ (Below.refl _ _)).mono ?_
  rintro e w5 ⟨rfl, hb5⟩
  have HB5 := hid hb5
  clear hb5
  go_wp2_with fail
  refine (tsame_any (HS4.out.t.below HB5.out) (HTC.out.below HB5.out)).mono ?_
  rw [sameL_refl]
  rintro e w6 ⟨rfl, hb6⟩
  have HB6 := hid (below_step HB5.out hb6)
  clear hb6
  go_wp2_with fail
  refine (tsame_any (HTC.out.below HB6.out) (HS4.out.t.below HB6.out)).mono ?_
  rw [sameL_refl]
  rintro e w7 ⟨rfl, hb7⟩
  have HB7 := hid (below_step HB6.out hb7)
  clear hb7
  go_wp2_with fail
  refine (check_yes (HTC.out.below HB7.out)).mono ?_
  rintro e w8 ⟨rfl, hb8⟩
  have HB8 := hid (below_step HB7.out hb8)
  clear hb8
  go_wp2_with fail
  refine (tmost (HTC.out.below HB8.out)).mono ?_
  rintro e w9 ⟨rfl, rfl⟩
  go_wp2_with fail
  refine (rcopy (HS4.out.r.below HB8.out) (by have := HLE.out; omega)).mono ?_
  rintro e w10 ⟨rfl, hb10, G2, hr2, hG2⟩
  have HB10 := hid (below_step HB8.out hb10)
  obtain ⟨s, HSS⟩ : ∃ T, Hid (T = w9.heap.size) := ⟨_, rfl⟩
  have HU : Hid (Under Q w3) := HST.out.t.under
  have HSC : Hid (St w3 w10 c p' Q most 2 G2 s l) := by
    rw [HSS.out]
    exact st_copy (w1 := w9) (HTC.out.below HB8.out) (below_step HB4.out HB8.out) (by rw [HC.out]; exact Nat.le_refl _) (fun i hi => Nat.le_of_lt (HP'.out i hi)) (fun b hb => Nat.lt_of_lt_of_le (HU.out b hb) (below_step HB4.out HB8.out).size) hr2 hb10 hG2 (Nat.le_refl _)
  rw [← HSS.out]
  clear hb10 hr2 hG2
  go_wp2
  go_loopw [11] (fun i wr => ∃ k : Nat, k ≤ len ∧ i = .int .i64 k ∧ ∃ Q G, St w3 wr c p' Q most 2 G s (runK most l (ms.take k))) (fun i _ => len - (intOf i).toNat)
  case atStart => exact ⟨0, by omega, rfl, Q, _, HSC.out⟩
  case round =>
    obtain ⟨k, hk, rfl, Q', G', hst⟩ := hrel
    have HS := hid hst
    by_cases hlt : k < len
    · have hlti : (k : Int) < len := by omega
      obtain ⟨op, hop⟩ : ∃ op, ms[k]? = some op := ⟨ms[k]'(by have := HLEN.out; omega), List.getElem?_eq_getElem _⟩
      obtain ⟨ad, rfl, hat⟩ := (HV2.out.below (below_step HST.out.since hst.since)).opAt hop
      obtain ⟨hc0, hc1, hc2, hc3, hc4, hc5⟩ := hat
      have HN := hid (runK_take most l hop)
      have HOK := hid (HMS.out.ok op (List.mem_of_getElem? hop))
      clear hst hop
      go_wp2_with fail
      refine (does_any HS.out op HOK.out).mono ?_
      rw [← HN.out]
      rintro e w11 ⟨rfl, Q2, G2, hst2⟩
      have HST2 := hid hst2
      clear hst2 hc0 hc1 hc2 hc3 hc4 hc5
      go_wp2
      go_roundw
      case rel => exact ⟨k + 1, by omega, by go_num, Q2, G2, HST2.out⟩
      case measure => simp [intOf]; omega
    · obtain rfl : k = len := by omega
      have hall : ms.take k = ms := List.take_of_length_le (by have := HLEN.out; omega)
      rw [hall] at HS
      obtain ⟨lc, HLC⟩ : ∃ lc, Hid (lc = runK most l ms) := ⟨_, rfl⟩
      rw [← HLC.out] at HS
      have HSZ := hid (HST.out.below_ HS.out.since)
      have HRC := hid HS.out.t.rows
      have HKC := hid HS.out.t.rows.kbyt
      obtain ⟨B, HBB⟩ : ∃ B, Hid (B = sameL l lc) := ⟨_, rfl⟩
      have HCM : Hid (sameL lc l = B) := by show _ = _; rw [HBB.out]; exact sameL_comm HRC.out HROWS.out
      have HEQ : Hid (eqL l lc = B) := by show _ = _; rw [HBB.out]; exact eqL_same HROWS.out HRC.out
      have HMX : Hid (∀ W, Below wr.heap.size wr W → Calls Try.prog 20 #[.pointer (some ⟨T, 0, none⟩), .pointer (some ⟨s, 0, none⟩)] W fun e w' => e = .returned (.bool B) ∧ Below W.heap.size W w') := fun W hb => by
        rw [← HEQ.out]
        exact same7_any W T p Q most 2 l G' s most lc (HSZ.out.t.below hb) (HS.out.r.below hb) HKC.out HS.out.t.le
      clear hst hall
      go_wp2_with fail
      refine (same7_yes wr T p Q most 2 l G rp HSZ.out.t HSZ.out.r HKY.out).mono ?_
      rintro e w11 ⟨rfl, hb11⟩
      have HB11 := hid hb11
      clear hb11
      go_wp2_with fail
      refine (same7_yes _ c p' Q' most 2 lc G' s (HS.out.t.below HB11.out) (HS.out.r.below HB11.out) HKC.out).mono ?_
      rintro e w12 ⟨rfl, hb12⟩
      have HB12 := hid (below_step HB11.out hb12)
      clear hb12
      go_wp2_with fail
      refine (check_yes (HS.out.t.below HB12.out)).mono ?_
      rintro e w13 ⟨rfl, hb13⟩
      have HB13 := hid (below_step HB12.out hb13)
      clear hb13
      go_wp2_with fail
      refine (tsame_any (HSZ.out.t.below HB13.out) (HS.out.t.below HB13.out)).mono ?_
      rw [← HBB.out]
      rintro e w14 ⟨rfl, hb14⟩
      have HB14 := hid (below_step HB13.out hb14)
      clear hb14
      go_wp2_with fail
      refine (HMX.out _ HB14.out).mono ?_
      rintro e w15 ⟨rfl, hb15⟩
      have HB15 := hid (below_step HB14.out hb15)
      clear hb15
      go_wp2_with fail
      refine (tsame_any (HS.out.t.below HB15.out) (HSZ.out.t.below HB15.out)).mono ?_
      rw [HCM.out]
      rintro e w16 ⟨rfl, hb16⟩
      have HB16 := hid (below_step HB15.out hb16)
      clear hb16
      go_wp2_with fail
      refine (HMX.out _ HB16.out).mono ?_
      rintro e w17 ⟨rfl, hb17⟩
      have HB17 := hid (below_step HB16.out hb17)
      clear hb17
      go_wp2_with fail
      refine (awake_any _).mono ?_
      rintro e w18 ⟨rfl, hb18⟩
      go_wp2
      go_ret
      exact ⟨rfl, below_step (below_step HSZ.out.since HB17.out) hb18⟩
theorem tablecopies_any (w : World) (n : Int) (v v2 : Value) (os : List Op7) (hv : Elems 6 cOp w v os) (hos : OpsOk os) (ms : List Op7) (hv2 : Elems 6 cOp w v2 ms) (hms : OpsOk ms) : Calls Try.prog 5 #[.int .i64 n, v, v2] w (Yes w) := by
  by_cases hn : 1 ≤ n ∧ n ≤ 1024
  · have hr : rightB n = true := decide_eq_true hn
    cases hf : few7 os with
    | false => exact cop_e2 w n v v2 os hv hr hf
    | true =>
      cases hf2 : few7 ms with
      | false => exact cop_e3 w n v v2 os hv ms hv2 hr hf hf2
      | true =>
        obtain ⟨k, rfl⟩ : ∃ k : Nat, n = (k : Int) := ⟨n.toNat, by omega⟩
        exact cop_ok w k (by omega) (by omega) v v2 os hv hos ms hv2 hms hf hf2
  · exact cop_e1 w n v v2 (decide_eq_false hn)
end Go.Proofs.Ytlnagdodnkhbmaa
