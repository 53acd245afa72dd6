import Derived.Test.YtmakcfnmdohedaaDoorT7
import Derived.Test.YtmakcfnmdohedaaDoorB2
namespace Go.Proofs.YtmakcfnmdohedaaDoor
open Go.RowKit


theorem tells_any (w : World) (v : Value) (xs : List Nat) (hs : Sl .u8 w v xs) (hb : Crc.Byt xs) (ht : Tab w) :
    Calls Tryd.prog 3 #[v] w (Yes w) := by
  have HS := hid hs
  obtain ⟨A, cap, rfl, hlc, hm, _⟩ := hs
  obtain ⟨len, HL⟩ : ∃ len, Hid (len = xs.length) := ⟨_, rfl⟩
  rw [← HL.out] at HS ⊢
  by_cases hl : 100 < len
  · go_enter Tryd.func3, Tryd.ntmps3
    go_wp2_with fail
    refine (awake_any w ht).mono ?_
    rintro e w' ⟨rfl, hb'⟩
    go_wp2
    go_ret
    exact ⟨rfl, hb'⟩
  · obtain ⟨S, HSum⟩ : ∃ S, Hid (S = Crc.sum 0 xs) := ⟨_, rfl⟩
    go_enter Tryd.func3, Tryd.ntmps3
    go_wp2_with fail
    refine (sum_any w _ xs HS.out hb ht).mono ?_
    rw [← HSum.out]
    rintro e w' ⟨rfl, rfl⟩
    go_wp2_with fail
    refine (refsum_any w 0 (by omega) _ xs HS.out hb).mono ?_
    rw [← HSum.out]
    rintro e w' ⟨rfl, rfl⟩
    go_wp2_with fail
    refine (awake_any w ht).mono ?_
    rintro e w' ⟨rfl, hb'⟩
    go_wp2
    go_ret
    exact ⟨rfl, hb'⟩

theorem tellsmore_any (w : World) (n : Int) (v : Value) (xs : List Nat) (hs : Sl .u8 w v xs) (hb : Crc.Byt xs) (ht : Tab w) :
    Calls Tryd.prog 4 #[.int .i64 n, v] w (Yes w) := by
  have HS := hid hs
  obtain ⟨A, cap, rfl, hlc, hm, _⟩ := hs
  obtain ⟨len, HL⟩ : ∃ len, Hid (len = xs.length) := ⟨_, rfl⟩
  rw [← HL.out] at HS ⊢
  by_cases hl : 100 < len
  · go_enter Tryd.func4, Tryd.ntmps4
    go_wp2_with fail
    refine (awake_any w ht).mono ?_
    rintro e w' ⟨rfl, hb'⟩
    go_wp2
    go_ret
    exact ⟨rfl, hb'⟩
  by_cases h0 : n < 0
  · go_enter Tryd.func4, Tryd.ntmps4
    go_wp2_with fail
    refine (more_bad w n _ (.inl h0)).mono ?_
    rintro e w' ⟨rfl, rfl⟩
    go_wp2_with fail
    refine (awake_any w ht).mono ?_
    rintro e w' ⟨rfl, hb'⟩
    go_wp2
    go_ret
    exact ⟨rfl, hb'⟩
  by_cases h1 : 4294967295 < n
  · go_enter Tryd.func4, Tryd.ntmps4
    go_wp2_with fail
    refine (more_bad w n _ (.inr h1)).mono ?_
    rintro e w' ⟨rfl, rfl⟩
    go_wp2_with fail
    refine (awake_any w ht).mono ?_
    rintro e w' ⟨rfl, hb'⟩
    go_wp2
    go_ret
    exact ⟨rfl, hb'⟩
  · obtain ⟨m, rfl⟩ : ∃ m : Nat, n = m := ⟨n.toNat, by omega⟩
    obtain ⟨S, HSum⟩ : ∃ S, Hid (S = Crc.sum m xs) := ⟨_, rfl⟩
    go_enter Tryd.func4, Tryd.ntmps4
    go_wp2_with fail
    refine (more_any w m (by omega) _ xs HS.out hb ht).mono ?_
    rw [← HSum.out]
    rintro e w' ⟨rfl, rfl⟩
    go_wp2_with fail
    refine (refsum_any w m (by omega) _ xs HS.out hb).mono ?_
    rw [← HSum.out]
    rintro e w' ⟨rfl, rfl⟩
    go_wp2_with fail
    refine (awake_any w ht).mono ?_
    rintro e w' ⟨rfl, hb'⟩
    go_wp2
    go_ret
    exact ⟨rfl, hb'⟩

theorem eqB_self (a : List Nat) : eqB a a = true := by simp [eqB]
theorem sealed_take (xs : List Nat) (n : Nat) (h : xs.length = n) : (sealed xs).take n = xs := by
  unfold sealed; rw [List.take_append_of_le_length (by omega), List.take_of_length_le (by omega)]

/-- Open of what was sealed. -/
theorem open_sealed (w : World) (v : Value) (xs : List Nat) (hs : Sl .u8 w v (sealed xs)) (hb : Crc.Byt xs) (ht : Tab w) (hl : xs.length ≤ 1000000000000) :
    Calls Tryd.prog 17 #[v] w fun e w' => ∃ v', e = .returned (.tuple #[v', .int .i64 0]) ∧ Sl .u8 w' v' xs ∧ Below w.heap.size w w' := by
  refine (open_long w v (sealed xs) xs.length hs (sealed_byt hb) ht (sealed_len xs) hl).mono ?_
  rw [sealed_take xs _ rfl]
  rintro e w' ⟨⟨v', he, hv⟩, hb'⟩
  rw [eqB_self] at he
  exact ⟨v', he, hv, hb'⟩

theorem back_any (w : World) (v : Value) (xs : List Nat) (hs : Sl .u8 w v xs) (hb : Crc.Byt xs) (ht : Tab w) :
    Calls Tryd.prog 7 #[v] w (Yes w) := by
  have HS := hid hs
  obtain ⟨A, cap, rfl, hlc, hm, _⟩ := hs
  obtain ⟨len, HL⟩ : ∃ len, Hid (len = xs.length) := ⟨_, rfl⟩
  rw [← HL.out] at HS ⊢
  by_cases hl : 300 < len
  · go_enter Tryd.func7, Tryd.ntmps7
    go_wp2_with fail
    refine (awake_any w ht).mono ?_
    rintro e w' ⟨rfl, hb'⟩
    go_wp2
    go_ret
    exact ⟨rfl, hb'⟩
  · go_enter Tryd.func7, Tryd.ntmps7
    go_wp2_with fail
    refine (sealed_any w _ xs HS.out hb ht (by have := HL.out; omega)).mono ?_
    rintro e w1 ⟨v1, rfl, hv1, hb1⟩
    have HV1 := hid hv1
    obtain ⟨A1, c1, rfl, _, _, _⟩ := hv1
    rw [sealed_len, ← HL.out] at HV1 ⊢
    have ht1 := ht.keep hb1
    go_wp2_with fail
    refine (open_sealed w1 _ xs HV1.out hb ht1 (by have := HL.out; omega)).mono ?_
    rintro e w2 ⟨v2, rfl, hv2, hb2⟩
    have HV2 := hid hv2
    have ht2 := ht1.keep hb2
    clear hv2
    go_wp2_with fail
    refine (bytes_any w2 _ _ xs xs HV2.out ((HS.out.below hb1).below hb2)).mono ?_
    rw [eqB_self]
    rintro e w3 ⟨rfl, hb3⟩
    have ht3 := ht2.keep hb3
    go_wp2_with fail
    refine (sealed_any w3 _ (sealed xs) ((HV1.out.below hb2).below hb3) (sealed_byt hb) ht3 (by rw [sealed_len]; have := HL.out; omega)).mono ?_
    rintro e w4 ⟨v4, rfl, hv4, hb4⟩
    have HV4 := hid hv4
    have ht4 := ht3.keep hb4
    clear hv4
    go_wp2_with fail
    refine (open_sealed w4 _ (sealed xs) HV4.out (sealed_byt hb) ht4 (by rw [sealed_len]; have := HL.out; omega)).mono ?_
    rintro e w5 ⟨v5, rfl, hv5, hb5⟩
    have HV5 := hid hv5
    have ht5 := ht4.keep hb5
    clear hv5
    go_wp2_with fail
    refine (bytes_any w5 _ _ (sealed xs) (sealed xs) HV5.out ((((HV1.out.below hb2).below hb3).below hb4).below hb5)).mono ?_
    rw [eqB_self]
    rintro e w6 ⟨rfl, hb6⟩
    go_wp2_with fail
    refine (awake_any w6 (ht5.keep hb6)).mono ?_
    rintro e w7 ⟨rfl, hb7⟩
    go_wp2
    go_ret
    exact ⟨rfl, below_step (below_step (below_step (below_step (below_step (below_step hb1 hb2) hb3) hb4) hb5) hb6) hb7⟩
end Go.Proofs.YtmakcfnmdohedaaDoor
