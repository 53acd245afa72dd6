import Derived.Test.YtkckilemfkajeaaW3
namespace Go.Proofs.Ytkckilemfkajeaa
open Go.RowKit

set_option maxHeartbeats 4000000 in
theorem plays_ok (w : World) (o : Nat) (h2 : 2 ≤ o) (h16 : o ≤ 16) (v : Value) (os : List Cl) (kx : List Nat) (hv : Elems 3 cO w v os) (hos : ClsOk os) (hkx : Byt kx)
    (hf : fewB os = true) (hk3 : kx.length ≤ 300) : Calls Try.prog 3 #[.int .i64 (o : Int), v, .string (str kx)] w (Yes w) := by
  obtain ⟨A, cap, rfl⟩ := hv.slice
  obtain ⟨hfew, hlen⟩ := fewB_yes hf
  obtain ⟨len, HLEN⟩ : ∃ len, Hid (len = os.length) := ⟨_, rfl⟩
  have hl200 : len ≤ 200 := by rw [HLEN.out]; exact hlen
  have HV := hid hv
  have HOS := hid hos
  have HFEW := hid hfew
  have HF := hid hf
  have hsk := str_size kx
  have hki : (kx.length : Int) ≤ 300 := by omega
  have ho2 : ¬ (o : Int) < 2 := by omega
  have ho16 : ¬ (16 : Int) < o := by omega
  rw [← HLEN.out] at HV ⊢
  clear hv hos hfew hf hlen
  go_enter Try.func3, Try.ntmps3
  go_wp2_with fail
  refine (tree_new_at w o h2 h16).mono ?_
  rintro e w1 ⟨a, P, rfl, hb1, ha, ht⟩
  have HT := hid ht
  have HA := hid ha
  have HB1 := hid hb1
  clear ht hb1 ha
  go_wp2_with fail
  refine (few_any w1 _ os (HV.out.below HB1.out)).mono ?_
  rw [HF.out]
  rintro e w1' ⟨rfl, rfl⟩
  have HST := hid (st_new HT.out HB1.out HA.out)
  go_wp2
  go_loopw [10] (fun i wr => ∃ k : Nat, k ≤ len ∧ i = .int .i64 k ∧ ∃ P G, St w wr P G a w1.heap.size (runL [] (os.take k)) o) (fun i _ => len - (intOf i).toNat)
  case atStart => exact ⟨0, by omega, rfl, P, _, HST.out⟩
  case round =>
    obtain ⟨k, hk, rfl, P', G', hst⟩ := hrel
    have HS := hid hst
    by_cases hlt : k < len
    · have hlti : (k : Int) < len := by omega
      obtain ⟨op, hop⟩ : ∃ op, os[k]? = some op := ⟨os[k]'(by have := HLEN.out; omega), List.getElem?_eq_getElem _⟩
      obtain ⟨ad, rfl, hat⟩ := (HV.out.below hst.since).opAt hop
      obtain ⟨hc0, hc1, hc2⟩ := hat
      have HN := hid (runL_take [] hop)
      have hmem := List.mem_of_getElem? hop
      have HOK := hid (HOS.out.ok op hmem)
      have hk1 := (HFEW.out op hmem).1
      have hk2 := (HFEW.out op hmem).2
      have HRL : Hid ((runL [] (os.take k)).length ≤ 900) := by
        have := runL_len (os.take k) []
        rw [List.length_take] at this
        show _ ≤ _
        simp at this; omega
      have HRL' : Hid ((runL [] (os.take (k + 1))).length ≤ 900) := by
        have := runL_len (os.take (k + 1)) []
        rw [List.length_take] at this
        show _ ≤ _
        simp at this; omega
      clear hst hop hmem
      go_wp2_with fail
      go_region_with (first
        | (go_at_call 20; refine (does_any (HS.out.below_ (Below.refl _ wr).drew) op HOK.out hk1 hk2 HRL.out).mono ?_; rw [← HN.out]; rintro e w2 ⟨rfl, P2, G2, hst2⟩; have HST2 := hid hst2; obtain ⟨A2, n2, c2, HN2, hp2⟩ := st_len hst2; clear hst2)
        | (go_at_call 21; refine (HST2.out.t.len).mono ?_; rw [← HN2.out]; rintro e w3 ⟨rfl, hb3⟩; have hp3 := below_keep hb3 _ _ hp2; have HB3 := hid hb3; clear hb3))
      all_goals
        go_wp2
        go_roundw
        case rel => exact ⟨k + 1, by omega, by go_num, P2, G2, HST2.out.below_ HB3.out⟩
        case measure => simp [intOf]; omega
    · obtain rfl : k = len := by omega
      have hall : os.take k = os := List.take_of_length_le (by have := HLEN.out; omega)
      rw [hall] at HS
      have HLL : Hid ((runL [] os).length ≤ 900) := by
        have := runL_len os []
        have := HLEN.out
        show _ ≤ _
        simp at *; omega
      obtain ⟨x, y, c, hcr⟩ := ceilR_form (runL [] os) kx
      have HCR := hid hcr
      have HLB := hid (HS.out.t.byt)
      clear hst hall hcr
      go_wp2_with fail
      refine (HS.out.t.ceil (Nat.le_trans HLL.out (by decide)) kx hkx).mono ?_
      rw [HCR.out]
      rintro e w2 ⟨rfl, hb2⟩
      have HS2 := hid (HS.out.below_ hb2)
      clear hb2
      go_wp2_with fail
      refine (refceil_ _ _ _ _ kx HS2.out.r HLB.out hkx).mono ?_
      rw [HCR.out]
      rintro e w3 ⟨rfl, hb3⟩
      have HS3 := hid (HS2.out.below_ hb3)
      clear hb3
      go_wp2_with fail
      refine (same_st HS3.out HLL.out).mono ?_
      rintro e w4 ⟨rfl, hb4⟩
      have HS4 := hid (HS3.out.below_ hb4)
      clear hb4
      go_wp2_with fail
      refine (awake_yes _).mono ?_
      rintro e w5 ⟨rfl, hb5⟩
      go_wp2
      go_ret
      exact ⟨rfl, below_step HS4.out.since hb5⟩
theorem plays_no (w : World) (n : Int) (hn : n < 2 ∨ (2 ≤ n ∧ 16 < n)) (v : Value) (kx : ByteArray) : Calls Try.prog 3 #[.int .i64 n, v, .string kx] w (Yes w) := by
  rcases hn with hn | ⟨hn, hn'⟩
  · go_enter Try.func3, Try.ntmps3
    go_wp2_with fail
    refine (tree_new_no w n (.inl hn)).mono ?_
    rintro e w1 ⟨rfl, hb1⟩
    go_wp2_with fail
    refine (awake_yes _).mono ?_
    rintro e w2 ⟨rfl, hb2⟩
    go_wp2
    go_ret
    exact ⟨rfl, below_step hb1 hb2⟩
  · go_enter Try.func3, Try.ntmps3
    go_wp2_with fail
    refine (tree_new_no w n (.inr hn')).mono ?_
    rintro e w1 ⟨rfl, hb1⟩
    go_wp2_with fail
    refine (awake_yes _).mono ?_
    rintro e w2 ⟨rfl, hb2⟩
    go_wp2
    go_ret
    exact ⟨rfl, below_step hb1 hb2⟩
theorem plays_many (w : World) (o : Nat) (h2 : 2 ≤ o) (h16 : o ≤ 16) (v : Value) (os : List Cl) (kx : List Nat) (hv : Elems 3 cO w v os) (hf : fewB os = false ∨ (fewB os = true ∧ 300 < kx.length)) :
    Calls Try.prog 3 #[.int .i64 (o : Int), v, .string (str kx)] w (Yes w) := by
  have ho2 : ¬ (o : Int) < 2 := by omega
  have ho16 : ¬ (16 : Int) < o := by omega
  have hsk := str_size kx
  rcases hf with hf | ⟨hf, hk⟩
  · go_enter Try.func3, Try.ntmps3
    go_wp2_with fail
    refine (tree_new_at w o h2 h16).mono ?_
    rintro e w1 ⟨a, P, rfl, hb1, ha, ht⟩
    have HB1 := hid hb1
    clear ht hb1 ha
    go_wp2_with fail
    refine (few_any w1 _ os (hv.below HB1.out)).mono ?_
    rw [hf]
    rintro e w1' ⟨rfl, rfl⟩
    go_wp2_with fail
    refine (awake_yes _).mono ?_
    rintro e w2 ⟨rfl, hb2⟩
    go_wp2
    go_ret
    exact ⟨rfl, below_step HB1.out hb2⟩
  · have hki : (300 : Int) < kx.length := by omega
    go_enter Try.func3, Try.ntmps3
    go_wp2_with fail
    refine (tree_new_at w o h2 h16).mono ?_
    rintro e w1 ⟨a, P, rfl, hb1, ha, ht⟩
    have HB1 := hid hb1
    clear ht hb1 ha
    go_wp2_with fail
    refine (few_any w1 _ os (hv.below HB1.out)).mono ?_
    rw [hf]
    rintro e w1' ⟨rfl, rfl⟩
    go_wp2_with fail
    refine (awake_yes _).mono ?_
    rintro e w2 ⟨rfl, hb2⟩
    go_wp2
    go_ret
    exact ⟨rfl, below_step HB1.out hb2⟩
theorem plays_any (w : World) (n : Int) (v : Value) (os : List Cl) (kx : List Nat) (hv : Elems 3 cO w v os) (hos : ClsOk os) (hkx : Byt kx) : Calls Try.prog 3 #[.int .i64 n, v, .string (str kx)] w (Yes w) := by
  by_cases h2 : n < 2
  · exact plays_no w n (.inl h2) v _
  · by_cases h16 : 16 < n
    · exact plays_no w n (.inr ⟨by omega, h16⟩) v _
    · obtain ⟨o, rfl⟩ : ∃ o : Nat, n = (o : Int) := ⟨n.toNat, by omega⟩
      cases hf : fewB os with
      | false => exact plays_many w o (by omega) (by omega) v os kx hv (.inl hf)
      | true =>
        by_cases hk : 300 < kx.length
        · exact plays_many w o (by omega) (by omega) v os kx hv (.inr ⟨hf, hk⟩)
        · exact plays_ok w o (by omega) (by omega) v os kx hv hos hkx hf (by omega)

end Go.Proofs.Ytkckilemfkajeaa
