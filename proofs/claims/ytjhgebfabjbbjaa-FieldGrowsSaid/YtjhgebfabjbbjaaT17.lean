import Derived.Test.YtjhgebfabjbbjaaT16
namespace Go.Proofs.Ytjhgebfabjbbjaa
open Go.RowKit

set_option maxHeartbeats 1600000 in
set_option maxRecDepth 100000 in
theorem grows_any (w : World) (a b : Int) (s : ByteArray) (ha1 : -9223372036854775808 ≤ a) (ha2 : a ≤ 9223372036854775807) (hb1 : -9223372036854775808 ≤ b) (hb2 : b ≤ 9223372036854775807) (hs : s.size ≤ maxLen) :
    Calls Try.prog 8 #[.int .i64 a, .int .i64 b, .string s] w (Yes w) := by
  unfold maxLen at hs
  by_cases hl : 100 < s.size
  · go_enter Try.func8, Try.ntmps8
    go_wp2_with fail
    refine (awake_any w).mono ?_
    rintro e w' ⟨rfl, hb'⟩
    go_wp2
    go_ret
    exact ⟨rfl, hb'⟩
  · have H0 := hid (three_new w)
    have HA1 := hid ha1; have HA2 := hid ha2; have HB1 := hid hb1; have HB2 := hid hb2
    obtain ⟨t, HT⟩ : ∃ t, Hid (t = nums s) := ⟨_, rfl⟩
    have HS : Hid (str t = s) := by show _ = _; rw [HT.out]; exact str_nums s
    have HTL : Hid (t.length = s.size) := by show _ = _; rw [HT.out]; exact nums_len s
    have HTB : Hid (Byt t) := by show Byt t; rw [HT.out]; exact nums_byt s
    have HL : Hid (t.length ≤ 100) := by show _ ≤ _; rw [HTL.out]; omega
    have HGA := hid (gr_len10 (zig_lt ha1 ha2))
    have HGB := hid (gr_len10 (zig_lt hb1 hb2))
    have HGT := hid (gr_len10 (n := t.length) (by have := HL.out; omega))
    clear ha1 ha2 hb1 hb2
    go_enter Try.func8, Try.ntmps8
    go_wp2_with fail
    refine (wuint_any _ _ _ _ a H0.out.x HA2.out (by simp)).mono ?_
    obtain ⟨c1, HC1⟩ : ∃ c, Hid (c = ucode a) := ⟨_, rfl⟩
    rw [← HC1.out]
    rintro e w1 ⟨rfl, F1, hw1, hc1⟩
    have H1 := hid (H0.out.setX hw1 hc1)
    clear hw1 hc1
    go_wp2_with fail
    refine (wuint_any _ _ _ _ b H1.out.y HB2.out (by simp)).mono ?_
    obtain ⟨c2, HC2⟩ : ∃ c, Hid (c = ucode b) := ⟨_, rfl⟩
    rw [← HC2.out]
    rintro e w2 ⟨rfl, F2, hw2, hc2⟩
    have H2 := hid (H1.out.setY hw2 hc2)
    clear hw2 hc2
    go_wp2_with fail
    refine (wint _ _ _ _ a H2.out.z HA1.out HA2.out (by simp)).mono ?_
    rintro e w3 ⟨rfl, F3, hw3, hc3⟩
    have H3 := hid (H2.out.setZ hw3 hc3)
    clear hw3 hc3
    simp only [List.nil_append] at H3
    go_wp2_with fail
    refine (wbytes_fresh _ _ _ _ H3.out.z (by have := HGA.out; omega)).mono ?_
    rintro e w4 ⟨u, rfl, hu, hc4⟩
    have H4 := hid (H3.out.new_ hc4)
    obtain ⟨A4, cap4, rfl, _⟩ := hu.sl
    clear hu hc4
    obtain ⟨n, HN⟩ : ∃ n, Hid (n = (gr (zig a)).length) := ⟨_, rfl⟩
    rw [← HN.out]
    go_wp2_with fail
    rw [← HS.out]
    refine (wtext _ _ _ _ t H4.out.z HTB.out (by have := HL.out; omega) (by have := HGA.out; omega)).mono ?_
    rw [HS.out]
    rintro e w5 ⟨rfl, F5, hw5, hc5⟩
    have H5 := hid (H4.out.setZ hw5 hc5)
    clear hw5 hc5
    go_wp2_with fail
    refine (wint _ _ _ _ b H5.out.z HB1.out HB2.out (by rw [List.length_append, tx_length]; have := HGA.out; have := HGT.out; have := HL.out; omega)).mono ?_
    rintro e w6 ⟨rfl, F6, hw6, hc6⟩
    have H6 := hid (H5.out.setZ hw6 hc6)
    clear hw6 hc6
    have hlz : Hid ((gr (zig a) ++ tx t ++ gr (zig b)).length ≤ 1000) := by
      show _ ≤ _
      rw [List.length_append, List.length_append, tx_length]; have := HGA.out; have := HGT.out; have := HL.out; have := HGB.out; omega
    go_wp2_with fail
    refine (wbytes_fresh _ _ _ _ H6.out.z (by have := hlz.out; omega)).mono ?_
    rintro e w7 ⟨u, rfl, hu, hc7⟩
    have H7 := hid (H6.out.new_ hc7)
    have HU := hid hu.sl
    clear hu hc7
    go_wp2_with fail
    refine (read_new _ _ _ HU.out).mono ?_
    rintro e w8 ⟨g, rfl, hR, hc8⟩
    have H8 := hid (H7.out.new_ hc8)
    have hx8 := hid (Apart.new hc8 H7.out.x.lt)
    have hy8 := hid (Apart.new hc8 H7.out.y.lt)
    have hz8 := hid (Apart.new hc8 H7.out.z.lt)
    have hg8 : Hid (∀ k ∈ [g], w.heap.size ≤ k) := fun k hk => Nat.le_trans H7.out.c.size (hc8.nil_from k hk)
    have HR : Hid (Rd w8 g (gr (zig a) ++ (gr t.length ++ (t ++ gr (zig b))))) := by
      have e : gr (zig a) ++ tx t ++ gr (zig b) = gr (zig a) ++ (gr t.length ++ (t ++ gr (zig b))) := by unfold tx; simp only [List.append_assoc]
      rw [e] at hR; exact hR
    have hrl : Hid ((t ++ gr (zig b)).length ≤ 1000) := by show _ ≤ _; rw [List.length_append]; have := HL.out; have := HGB.out; omega
    clear hR hc8
    go_wp2_with fail
    refine (rint_ok _ g (zig a) _ HR.out ((gr_byt _).app (HTB.out.app (gr_byt _))) (zig_lt HA1.out HA2.out) (by rw [List.length_append]; have := HGT.out; have := hrl.out; omega)).mono ?_
    rw [zag_zig]
    rintro e w9 ⟨rfl, hR9, hc9⟩
    have H9 := hid (H8.out.far hc9 hg8.out hx8.out hy8.out hz8.out)
    have HR9 := hid hR9
    clear hR9 hc9
    go_wp2_with fail
    refine (rtext_ok _ g 100 t.length _ HR9.out (HTB.out.app (gr_byt _)) (by have := HL.out; omega) (by have := HL.out; omega) (by rw [List.length_append]; omega) (by have := hrl.out; omega)).mono ?_
    rw [List.take_left, List.drop_left, HS.out]
    rintro e w10 ⟨rfl, hR10, hc10⟩
    have H10 := hid (H9.out.far hc10 hg8.out hx8.out hy8.out hz8.out)
    have HR10 : Hid (Rd w10 g (gr (zig b) ++ [])) := by rw [List.append_nil]; exact hR10
    clear hR10 hc10
    go_wp2_with fail
    refine (rint_ok _ g (zig b) [] HR10.out Byt.nil (zig_lt HB1.out HB2.out) (by simp)).mono ?_
    rw [zag_zig]
    rintro e w11 ⟨rfl, hR11, hc11⟩
    have H11 := hid (H10.out.far hc11 hg8.out hx8.out hy8.out hz8.out)
    have HR11 := hid hR11
    clear hR11 hc11
    go_wp2_with fail
    refine (rleft _ g [] HR11.out).mono ?_
    rintro e w' ⟨rfl, rfl⟩
    have hn1 : 1 ≤ (n : Int) := by have := HN.out; have := gr_pos (zig a); omega
    have hn10 : (n : Int) ≤ 10 := by have := HN.out; have := HGA.out; omega
    have HY := hid H11.out.c.nil_below
    by_cases ha : a < 0
    · have hc1 : c1 = 10 := by rw [HC1.out]; unfold ucode; rw [if_pos ha]
      subst hc1
      by_cases hb : b < 0
      · have hc2 : c2 = 10 := by rw [HC2.out]; unfold ucode; rw [if_pos hb]
        subst hc2
        go_wp2_with fail
        refine (awake_any _).mono ?_
        rintro e w12 ⟨rfl, hb'⟩
        go_wp2
        go_ret
        exact ⟨ret_bool (by first | rfl | (simp; omega)), below_step HY.out hb'⟩
      · have hc2 : c2 = 0 := by rw [HC2.out]; unfold ucode; rw [if_neg hb]
        subst hc2
        go_wp2_with fail
        refine (awake_any _).mono ?_
        rintro e w12 ⟨rfl, hb'⟩
        go_wp2
        go_ret
        exact ⟨ret_bool (by first | rfl | (simp; omega)), below_step HY.out hb'⟩
    · have hc1 : c1 = 0 := by rw [HC1.out]; unfold ucode; rw [if_neg ha]
      subst hc1
      by_cases hb : b < 0
      · have hc2 : c2 = 10 := by rw [HC2.out]; unfold ucode; rw [if_pos hb]
        subst hc2
        go_wp2_with fail
        refine (awake_any _).mono ?_
        rintro e w12 ⟨rfl, hb'⟩
        go_wp2
        go_ret
        exact ⟨ret_bool (by first | rfl | (simp; omega)), below_step HY.out hb'⟩
      · have hc2 : c2 = 0 := by rw [HC2.out]; unfold ucode; rw [if_neg hb]
        subst hc2
        have hua : Hid (uenc a = gr a.toNat) := by show _ = _; unfold uenc; rw [if_neg ha]
        have hub : Hid (uenc b = gr b.toNat) := by show _ = _; unfold uenc; rw [if_neg hb]
        obtain ⟨p, HP⟩ : ∃ p, Hid (p = (gr a.toNat).length) := ⟨_, rfl⟩
        obtain ⟨q, HQ⟩ : ∃ p, Hid (p = (gr b.toNat).length) := ⟨_, rfl⟩
        have hp1 : 1 ≤ (p : Int) := by have := HP.out; have := gr_pos a.toNat; omega
        have hq1 : 1 ≤ (q : Int) := by have := HQ.out; have := gr_pos b.toNat; omega
        have hp9 : (p : Int) ≤ 9 := by have := HP.out; have := gr_len9 (n := a.toNat) (by have := HA2.out; omega); omega
        have hq9 : (q : Int) ≤ 9 := by have := HQ.out; have := gr_len9 (n := b.toNat) (by have := HB2.out; omega); omega
        have hpq : a ≤ b → p ≤ q := fun h => by rw [HP.out, HQ.out]; exact gr_mono _ _ (by omega)
        have hqp : b ≤ a → q ≤ p := fun h => by rw [HP.out, HQ.out]; exact gr_mono _ _ (by omega)
        have HPQ := hid hpq
        have HQP := hid hqp
        clear hpq hqp
        go_wp2_with fail
        refine (wbytes_fresh _ _ _ _ H11.out.x (by have := uenc_len HA2.out; omega)).mono ?_
        try simp only [List.nil_append]
        rw [hua.out]
        rintro e w12 ⟨u12, rfl, hu12, hc12⟩
        have H12 := hid (H11.out.new_ hc12)
        obtain ⟨A12, cap12, rfl, _⟩ := hu12.sl
        clear hu12 hc12
        rw [← HP.out]
        go_wp2_with fail
        refine (wbytes_fresh _ _ _ _ H12.out.y (by have := uenc_len HB2.out; omega)).mono ?_
        try simp only [List.nil_append]
        rw [hub.out]
        rintro e w13 ⟨u13, rfl, hu13, hc13⟩
        have HY13 := hid (H12.out.new_ hc13).c.nil_below
        obtain ⟨A13, cap13, rfl, _⟩ := hu13.sl
        clear hu13 hc13
        rw [← HQ.out]
        by_cases hab : a ≤ b
        · have h1 : (p : Int) ≤ q := by have := HPQ.out hab; omega
          by_cases hba : b ≤ a
          · have h2 : (q : Int) ≤ p := by have := HQP.out hba; omega
            go_wp2_with fail
            refine (awake_any _).mono ?_
            rintro e w14 ⟨rfl, hb'⟩
            go_wp2
            go_ret
            exact ⟨rfl, below_step HY13.out hb'⟩
          · go_wp2_with fail
            refine (awake_any _).mono ?_
            rintro e w14 ⟨rfl, hb'⟩
            go_wp2
            go_ret
            exact ⟨rfl, below_step HY13.out hb'⟩
        · have h2 : (q : Int) ≤ p := by have := HQP.out (by omega); omega
          go_wp2_with fail
          refine (awake_any _).mono ?_
          rintro e w14 ⟨rfl, hb'⟩
          go_wp2
          go_ret
          exact ⟨rfl, below_step HY13.out hb'⟩
end Go.Proofs.Ytjhgebfabjbbjaa
