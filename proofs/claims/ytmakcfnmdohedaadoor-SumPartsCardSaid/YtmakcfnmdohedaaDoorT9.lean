import Derived.Test.YtmakcfnmdohedaaDoorT8
namespace Go.Proofs.YtmakcfnmdohedaaDoor
open Go.RowKit

theorem parts_any (w : World) (u v : Value) (xs ys : List Nat) (hs : Sl .u8 w u xs) (hb : Crc.Byt xs) (hs' : Sl .u8 w v ys) (hb' : Crc.Byt ys) (ht : Tab w) :
    Calls Tryd.prog 5 #[u, v] w (Yes w) := by
  obtain ⟨i0, hi, hz0, hz1, hz2⟩ := info_parts Tryd.info5
  have HS := hid hs
  have HS' := hid hs'
  obtain ⟨A, cap, rfl, hlc, hm, _⟩ := hs
  obtain ⟨A', cap', rfl, hlc', hm', _⟩ := hs'
  obtain ⟨len, HL⟩ : ∃ len, Hid (len = xs.length) := ⟨_, rfl⟩
  obtain ⟨len', HL'⟩ : ∃ len, Hid (len = ys.length) := ⟨_, rfl⟩
  rw [← HL.out] at HS ⊢
  rw [← HL'.out] at HS' ⊢
  clear hlc hlc' hm hm'
  by_cases hl : 300 < len
  · go_enter Tryd.func5, Tryd.ntmps5
    go_wp2_with fail
    refine (awake_any w ht).mono ?_
    rintro e w' ⟨rfl, hb'⟩
    go_wp2
    go_ret
    exact ⟨rfl, hb'⟩
  by_cases hl' : 300 < len'
  · go_enter Tryd.func5, Tryd.ntmps5
    go_wp2_with fail
    refine (awake_any w ht).mono ?_
    rintro e w' ⟨rfl, hb'⟩
    go_wp2
    go_ret
    exact ⟨rfl, hb'⟩
  · have hbb : Crc.Byt (xs ++ ys) := by
      intro b h
      rcases List.mem_append.1 h with h | h
      · exact hb b h
      · exact hb' b h
    have h1 := Crc.sum_lt (n := 0) (by omega) hb
    have h2 := Crc.sum_lt (n := 0) (by omega) hbb
    obtain ⟨S, HS1⟩ : ∃ S, Hid (S = Crc.sum 0 xs) := ⟨_, rfl⟩
    obtain ⟨T, HT1⟩ : ∃ S, Hid (S = Crc.sum 0 (xs ++ ys)) := ⟨_, rfl⟩
    rw [← HS1.out] at h1
    rw [← HT1.out] at h2
    go_enter Tryd.func5, Tryd.ntmps5
    go_wp2_with (first | (at_builtin; refine wpList_append_sl _ rfl (.tmp 19) (.tmp 20) 22 rfl w.heap.size 5 i0 (.int .u8 0) 1 Tryd.underlying22 hi hz0 hz1 hz2 rfl .u8 _ [] rfl (Own.nil _ _ _ _) _ xs rfl HS.out (by rw [← HL.out]; unfold maxLen; simp; omega) (by rw [← HL.out]; simp; omega) (Nat.le_refl _) ?_; intro v1 w1 hown1 hgrow1 hb1; rw [List.nil_append] at hown1) | (at_builtin; refine wpList_append_sl _ rfl (.tmp 22) (.tmp 23) 22 rfl w.heap.size 5 i0 (.int .u8 0) 1 Tryd.underlying22 hi hz0 hz1 hz2 rfl .u8 _ xs rfl hown1 _ ys rfl (HS'.out.below hb1) (by rw [← HL.out, ← HL'.out]; unfold maxLen; omega) (by rw [← HL.out, ← HL'.out]; omega) hb1.size ?_; intro v2 w2 hown2 hgrow2 hb2))
    have hb12 := hb1.trans hb2
    have ht2 := ht.keep hb12
    have HS2 := hid (HS.out.below hb12)
    have HS2' := hid (HS'.out.below hb12)
    refine (sum_any w2 _ xs HS2.out hb ht2).mono ?_
    rw [← HS1.out]
    rintro e w' ⟨rfl, rfl⟩
    go_wp2_with fail
    refine (more_any w2 S h1 _ ys HS2'.out hb' ht2).mono ?_
    rw [HS1.out, Crc.sum_append, ← HT1.out, ← HS1.out]
    rintro e w' ⟨rfl, rfl⟩
    go_wp2_with fail
    refine (more_any w2 0 (by omega) _ xs HS2.out hb ht2).mono ?_
    rw [← HS1.out]
    rintro e w' ⟨rfl, rfl⟩
    go_wp2_with fail
    refine (sum_any w2 _ (xs ++ ys) hown2.sl hbb ht2).mono ?_
    rw [← HT1.out]
    rintro e w' ⟨rfl, rfl⟩
    go_wp2_with fail
    refine (sum_any w2 _ xs HS2.out hb ht2).mono ?_
    rw [← HS1.out]
    rintro e w' ⟨rfl, rfl⟩
    go_wp2_with fail
    refine (awake_any w2 ht2).mono ?_
    rintro e w' ⟨rfl, hb'⟩
    go_wp2
    go_ret
    exact ⟨rfl, below_step hb12 hb'⟩
end Go.Proofs.YtmakcfnmdohedaaDoor
