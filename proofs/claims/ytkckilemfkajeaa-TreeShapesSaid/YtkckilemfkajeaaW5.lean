import Derived.Test.YtkckilemfkajeaaW3
namespace Go.Proofs.Ytkckilemfkajeaa
open Go.RowKit

/-- TreeShapes: no tree, or too many calls. -/
theorem shapes_no (w : World) (n : Int) (hn : n < 2 ∨ 16 < n) (v : Value) : Calls Try.prog 4 #[.int .i64 n, v] w (Yes w) := by
  go_enter Try.func4, Try.ntmps4
  go_wp2_with fail
  refine (tree_new_no w n hn).mono ?_
  rintro e w1 ⟨rfl, hb1⟩
  go_wp2_with fail
  refine (awake_yes _).mono ?_
  rintro e w2 ⟨rfl, hb2⟩
  go_wp2
  go_ret
  exact ⟨rfl, below_step hb1 hb2⟩
theorem shapes_many (w : World) (o : Nat) (h2 : 2 ≤ o) (h16 : o ≤ 16) (v : Value) (os : List Cl) (hv : Elems 3 cO w v os) (hf : fewB os = false) : Calls Try.prog 4 #[.int .i64 (o : Int), v] w (Yes w) := by
  go_enter Try.func4, Try.ntmps4
  go_wp2_with fail
  refine (tree_new_at w o h2 h16).mono ?_
  rintro e w1 ⟨a, P, rfl, hb1, ha, ht⟩
  have HB1 := hid hb1
  clear ht hb1 ha
  go_wp2_with fail
  refine (few_any w1 _ os (hv.below HB1.out)).mono ?_
  rw [hf]
  rintro e w1' ⟨rfl, rfl⟩
  go_wp2_with fail
  refine (awake_yes _).mono ?_
  rintro e w2 ⟨rfl, hb2⟩
  go_wp2
  go_ret
  exact ⟨rfl, below_step HB1.out hb2⟩
set_option maxHeartbeats 4000000 in
theorem shapes_ok (w : World) (o : Nat) (h2 : 2 ≤ o) (h16 : o ≤ 16) (v : Value) (os : List Cl) (hv : Elems 3 cO w v os) (hos : ClsOk os) (hf : fewB os = true) :
    Calls Try.prog 4 #[.int .i64 (o : Int), v] w (Yes w) := by
  obtain ⟨A, cap, rfl⟩ := hv.slice
  obtain ⟨hfew, hlen⟩ := fewB_yes hf
  obtain ⟨len, HLEN⟩ : ∃ len, Hid (len = os.length) := ⟨_, rfl⟩
  have hl200 : len ≤ 200 := by rw [HLEN.out]; exact hlen
  have HV := hid hv
  have HOS := hid hos
  have HFEW := hid hfew
  have HF := hid hf
  rw [← HLEN.out] at HV ⊢
  clear hv hos hfew hf hlen
  go_enter Try.func4, Try.ntmps4
  go_wp2_with fail
  refine (tree_new_at w o h2 h16).mono ?_
  rintro e w1 ⟨a, P, rfl, hb1, ha, ht⟩
  have HT := hid ht
  have HA := hid ha
  have HB1 := hid hb1
  clear ht hb1 ha
  go_wp2_with fail
  refine (few_any w1 _ os (HV.out.below HB1.out)).mono ?_
  rw [HF.out]
  rintro e w1' ⟨rfl, rfl⟩
  have HST := hid (st_new HT.out HB1.out HA.out)
  go_wp2
  go_loopw [8] (fun i wr => ∃ k : Nat, k ≤ len ∧ i = .int .i64 k ∧ ∃ P G, St w wr P G a w1.heap.size (runL [] (os.take k)) o) (fun i _ => len - (intOf i).toNat)
  case atStart => exact ⟨0, by omega, rfl, P, _, HST.out⟩
  case round =>
    obtain ⟨k, hk, rfl, P', G', hst⟩ := hrel
    have HS := hid hst
    by_cases hlt : k < len
    · have hlti : (k : Int) < len := by omega
      obtain ⟨op, hop⟩ : ∃ op, os[k]? = some op := ⟨os[k]'(by have := HLEN.out; omega), List.getElem?_eq_getElem _⟩
      obtain ⟨ad, rfl, hat⟩ := (HV.out.below hst.since).opAt hop
      obtain ⟨hc0, hc1, hc2⟩ := hat
      have HN := hid (runL_take [] hop)
      have hmem := List.mem_of_getElem? hop
      have HOK := hid (HOS.out.ok op hmem)
      have hk1 := (HFEW.out op hmem).1
      have hk2 := (HFEW.out op hmem).2
      have HRL : Hid ((runL [] (os.take k)).length ≤ 900) := by
        have := runL_len (os.take k) []
        rw [List.length_take] at this
        show _ ≤ _
        simp at this; omega
      have HRL' : Hid ((runL [] (os.take (k + 1))).length ≤ 900) := by
        have := runL_len (os.take (k + 1)) []
        rw [List.length_take] at this
        show _ ≤ _
        simp at this; omega
      clear hst hop hmem
      go_wp2_with fail
      refine (does_any HS.out op HOK.out hk1 hk2 HRL.out).mono ?_
      rw [← HN.out]
      rintro e w2 ⟨rfl, P2, G2, hst2⟩
      have HST2 := hid hst2
      obtain ⟨A2, n2, c2, HN2, hp2⟩ := st_len hst2
      have HP2 := hid hp2
      clear hst2 hc0 hc1 hc2
      go_wp2_with fail
      go_region_held3 (fun W' => W'.cell? ⟨w1.heap.size, 0, none⟩ = some (.slice A2 n2 c2)) (first | exact hp2 | exact HP3.out | exact HP4.out)
        (first
          | (go_at_call 26; ((with_reducible refine ((HST2.out.below_ (Below.refl _ w2).drew).t.shape (Nat.le_trans HRL'.out (by decide))).mono ?_); rintro e w3 ⟨sv, s2, rfl, hsv, hso, hb3⟩; have HSV := hid hsv; have HSO := hid hso; have HB3 := hid hb3; have HP3 := hid (below_keep hb3 _ _ HP2.out); clear hsv hb3 hso))
          | (go_at_call 25; ((with_reducible refine (shaped_ok _ _ s2 o n2 HSV.out (by rw [HN2.out]; exact HSO.out) h2 h16 (by rw [HN2.out]; have := HRL'.out; omega)).mono ?_); rintro e w4 ⟨rfl, hb4⟩; have HB4 := hid hb4; have HP4 := hid (below_keep hb4 _ _ HP3.out); clear hb4)))
      go_wp2
      go_roundw
      case rel => exact ⟨k + 1, by omega, by go_num, P2, G2, ((HST2.out.below_ (Below.refl _ w2).drew).below_ HB3.out).below_ HB4.out⟩
      case measure => simp [intOf]; omega
    · obtain rfl : k = len := by omega
      have hall : os.take k = os := List.take_of_length_le (by have := HLEN.out; omega)
      rw [hall] at HS
      have HLL : Hid ((runL [] os).length ≤ 900) := by
        have := runL_len os []
        have := HLEN.out
        show _ ≤ _
        simp at *; omega
      obtain ⟨n2, HN2⟩ : ∃ n2, Hid (n2 = (runL [] os).length) := ⟨_, rfl⟩
      clear hst hall
      go_wp2_with fail
      refine (HS.out.t.shape (Nat.le_trans HLL.out (by decide))).mono ?_
      rintro e w3 ⟨sv, s', rfl, hsv, hso, hb3⟩
      have HSO := hid hso
      have HSV := hid hsv
      have HS3 := hid (HS.out.below_ hb3)
      clear hsv hb3 hso
      go_wp2_with fail
      refine (HS3.out.t.len).mono ?_
      rw [← HN2.out]
      rintro e w4 ⟨rfl, hb4⟩
      have HS4 := hid (HS3.out.below_ hb4)
      have HB4 := hid hb4
      clear hb4
      go_wp2_with fail
      refine (shaped_ok _ _ s' o n2 (HSV.out.below HB4.out) (by rw [HN2.out]; exact HSO.out) h2 h16 (by rw [HN2.out]; have := HLL.out; omega)).mono ?_
      rintro e w5 ⟨rfl, hb5⟩
      have HS5 := hid (HS4.out.below_ hb5)
      clear hb5
      go_wp2_with fail
      refine (awake_yes _).mono ?_
      rintro e w6 ⟨rfl, hb6⟩
      go_wp2
      go_ret
      exact ⟨rfl, below_step HS5.out.since hb6⟩
theorem shapes_any (w : World) (n : Int) (v : Value) (os : List Cl) (hv : Elems 3 cO w v os) (hos : ClsOk os) : Calls Try.prog 4 #[.int .i64 n, v] w (Yes w) := by
  by_cases hn : n < 2 ∨ 16 < n
  · exact shapes_no w n hn v
  · obtain ⟨o, rfl⟩ : ∃ o : Nat, n = (o : Int) := ⟨n.toNat, by omega⟩
    cases hf : fewB os with
    | false => exact shapes_many w o (by omega) (by omega) v os hv hf
    | true => exact shapes_ok w o (by omega) (by omega) v os hv hos hf
end Go.Proofs.Ytkckilemfkajeaa
