import Derived.Test.YtmakcfnmdohedaaDoorT8
import Derived.Deep.RegionWith
import Derived.Deep.CutRange
namespace Go.Proofs.YtmakcfnmdohedaaDoor
open Go.RowKit

set_option maxHeartbeats 4000000 in
theorem seals_any (w : World) (v : Value) (xs : List Nat) (hs : Sl .u8 w v xs) (hb : Crc.Byt xs) (ht : Tab w) :
    Calls Tryd.prog 6 #[v] w (Yes w) := by
  obtain ⟨i0, hi, hz0, hz1, hz2⟩ := info_parts Tryd.info5
  have HS := hid hs
  obtain ⟨A, cap, rfl, hlc, hm, hA, hcell⟩ := hs
  have HC := hid hcell
  clear hcell
  obtain ⟨len, HL⟩ : ∃ len, Hid (len = xs.length) := ⟨_, rfl⟩
  rw [← HL.out] at HS hlc ⊢
  by_cases hl : 100 < len
  · go_enter Tryd.func6, Tryd.ntmps6
    go_wp2_with fail
    refine (awake_any w ht).mono ?_
    rintro e w' ⟨rfl, hb'⟩
    go_wp2
    go_ret
    exact ⟨rfl, hb'⟩
  · have hsum := Crc.sum_lt (n := 0) (by omega) hb
    obtain ⟨S, HSum⟩ : ∃ S, Hid (S = Crc.sum 0 xs) := ⟨_, rfl⟩
    rw [← HSum.out] at hsum
    go_enter Tryd.func6, Tryd.ntmps6
    go_wp2_with (first | (at_builtin; refine wpList_append_sl _ rfl (.tmp 11) (.tmp 12) 22 rfl w.heap.size 5 i0 (.int .u8 0) 1 Tryd.underlying22 hi hz0 hz1 hz2 rfl .u8 _ [] rfl (Own.nil _ _ _ _) _ xs rfl HS.out (by rw [← HL.out]; unfold maxLen; simp; omega) (by rw [← HL.out]; simp; omega) (Nat.le_refl _) ?_; intro v1 w1 hown1 hgrow1 hb1; rw [List.nil_append] at hown1))
    have HS1 := hid (HS.out.below hb1)
    refine (refsum_any w1 0 (by omega) _ xs HS1.out hb).mono ?_
    rw [← HSum.out]
    rintro e w' ⟨rfl, rfl⟩
    go_wp2_with fail
    refine (four_any w1 S hsum).mono ?_
    rintro e w2 ⟨v2, rfl, hv2, hb2⟩
    have hown2 := hown1.below hb2
    clear hown1 hgrow1
    go_wp2_with (first | (at_builtin; refine wpList_append_sl _ rfl (.tmp 14) (.tmp 17) 22 rfl w.heap.size 5 i0 (.int .u8 0) 1 Tryd.underlying22 hi hz0 hz1 hz2 rfl .u8 _ xs rfl hown2 _ (four S) rfl hv2 (by rw [← HL.out]; unfold maxLen; simp [four]; omega) (by rw [← HL.out]; simp [four]; omega) (by have := hb1.size; have := hb2.size; omega) ?_; intro v3 w3 hown3 hgrow3 hb3))
    have hb13 := (hb1.trans (hb2.mono hb1.size)).trans hb3
    have ht3 := ht.keep hb13
    have HS3 := hid (HS.out.below hb13)
    refine (sealed_any w3 _ xs HS3.out hb ht3 (by rw [← HL.out]; omega)).mono ?_
    rintro e w4 ⟨v4, rfl, hv4, hb4⟩
    have HV := hid (hown3.sl.below hb4)
    rw [HSum.out] at HV
    clear hown3 hgrow3 hown2
    go_wp2_with fail
    refine (bytes_any w4 _ _ _ _ hv4 HV.out).mono ?_
    rw [show eqB (sealed xs) (xs ++ four (Crc.sum 0 xs)) = true from eqB_self _]
    rintro e w5 ⟨rfl, hb5⟩
    have hb15 := below_step (below_step hb13 hb4) hb5
    have ht5 := ht.keep hb15
    have HS5 := hid (HS.out.below hb15)
    clear hv4 HV ht3 HS3 HS1 hv2
    go_wp2_with fail
    by_cases h4 : len < 4
    · refine (open_short w5 _ xs HS5.out (by rw [← HL.out]; exact h4)).mono ?_
      rintro e w' ⟨rfl, rfl⟩
      go_wp2_with fail
      refine (awake_any w5 ht5).mono ?_
      rintro e w' ⟨rfl, hb'⟩
      go_wp2
      go_ret
      exact ⟨rfl, below_step hb15 hb'⟩
    · obtain ⟨n, hn⟩ : ∃ n, len = n + 4 := ⟨len - 4, by omega⟩
      subst hn
      refine (open_long w5 _ xs n HS5.out hb ht5 HL.out.symm (by omega)).mono ?_
      rintro e w6 ⟨⟨v6, rfl, hv6⟩, hb6⟩
      have HV6 := hid hv6
      clear hv6
      obtain ⟨ad, rfl, _⟩ := HC.out 0 (xs[0]'(by rw [← HL.out]; omega)) (List.getElem?_eq_getElem _)
      have hyb := take_byt hb n
      have hT := Crc.sum_lt (n := 0) (by omega) hyb
      have HK := hid (Sl.take_ HS5.out (n := n) (by rw [← HL.out]; omega))
      have HD := hid (Sl.drop_ HS5.out (n := n) (m := 4) hlc)
      have hb16 := below_step hb15 hb6
      have HQ : Hid (eqB (sealed (xs.take n)) xs = eqB (xs.drop n) (four (Crc.sum 0 (xs.take n)))) := by
        show _ = _
        unfold eqB sealed
        rw [decide_eq_decide]
        have e := List.take_append_drop n xs
        constructor
        · intro h
          have h2 := h.trans e.symm
          exact (List.append_cancel_left h2).symm
        · intro h
          rw [← h]; exact e
      obtain ⟨ys, HY⟩ : ∃ ys, Hid (ys = xs.take n) := ⟨_, rfl⟩
      obtain ⟨zs, HZ⟩ : ∃ zs, Hid (zs = xs.drop n) := ⟨_, rfl⟩
      rw [← HY.out] at HK hyb hT HQ HV6
      rw [← HY.out]
      rw [← HZ.out] at HD HQ
      obtain ⟨T, HT⟩ : ∃ T, Hid (T = Crc.sum 0 ys) := ⟨_, rfl⟩
      rw [← HT.out] at hT HQ
      rw [HQ.out]
      obtain ⟨X, E, HX⟩ : ∃ X E, Hid ((if eqB zs (four T) = true then #[v6, .int .i64 0] else #[.slice none 0 0, .int .i64 12]) = (#[X, .int .i64 E] : Array Value)) := by
        by_cases h : eqB zs (four T) = true
        · exact ⟨_, _, if_pos h⟩
        · exact ⟨_, _, if_neg h⟩
      rw [HX.out]
      go_upto_region 12 with (fail)
      go_cut [53] from 44 to 53 (fun s53 wx => s53 = .bool (!eqB zs (four T)) ∧ Below w6.heap.size w6 wx)
      case first =>
        go_region_with (first | (go_at_call 12; refine (refsum_any _ 0 (by omega) _ ys (HK.out.below hb6).drew hyb).mono ?_; rw [← HT.out]; rintro e w' ⟨rfl, rfl⟩) | (go_at_call 14; refine (four_any _ T hT).mono ?_; rintro e w7 ⟨v7, rfl, hv7, hb7⟩; have HV7 := hid hv7; have HB7 := hid hb7; clear hv7 hb7) | (go_at_call 15; refine (bytes_any _ _ _ zs (four T) ((HD.out.below hb6).drew.below HB7.out) HV7.out).mono ?_; rintro e w8 ⟨rfl, hb8⟩))
        all_goals (go_wp2_with fail; go_meet; exact ⟨rfl, below_step (below_step (b := w6.drew) (Below.refl _ _).drew HB7.out) hb8⟩)
      case rest =>
        obtain ⟨rfl, hbc⟩ := hcut
        have hb17 := below_step hb16 hbc
        have ht7 := ht.keep hb17
        have HV7 := hid (HV6.out.below hbc)
        have HK7 := hid ((HK.out.below hb6).below hbc)
        by_cases h : eqB zs (four T) = true
        · have hX := HX.out
          rw [if_pos h] at hX
          have e1 : X = v6 := by have := congrArg (·[0]?) hX; simpa using this.symm
          have e2 : E = 0 := by have := congrArg (·[1]?) hX; simpa using this.symm
          clear hX
          subst e1; subst e2
          rw [h]
          go_wp2_with fail
          refine (bytes_any wc _ _ ys ys HV7.out HK7.out).mono ?_
          rw [eqB_self]
          rintro e w8 ⟨rfl, hb8⟩
          go_wp2_with fail
          refine (awake_any w8 (ht7.keep hb8)).mono ?_
          rintro e w9 ⟨rfl, hb9⟩
          go_wp2
          go_ret
          exact ⟨rfl, below_step (below_step hb17 hb8) hb9⟩
        · have hX := HX.out
          rw [if_neg h] at hX
          have e1 : X = .slice none 0 0 := by have := congrArg (·[0]?) hX; simpa using this.symm
          have e2 : E = 12 := by have := congrArg (·[1]?) hX; simpa using this.symm
          clear hX
          subst e1; subst e2
          have h : eqB zs (four T) = false := by simpa using h
          rw [h]
          go_wp2_with fail
          refine (awake_any wc ht7).mono ?_
          rintro e w9 ⟨rfl, hb9⟩
          go_wp2
          go_ret
          exact ⟨rfl, below_step hb17 hb9⟩
end Go.Proofs.YtmakcfnmdohedaaDoor
