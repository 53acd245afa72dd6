import Derived.Test.YtjhgebfabjbbjaaT22
namespace Go.Proofs.Ytjhgebfabjbbjaa
open Go.RowKit

/-- A writer, and a row beside it, and nothing else has turned since W. -/
structure WW (W w : World) (F : List Nat) (v p : Value) (X Y : List Nat) : Prop where
  wr : Wr w F p X
  own : Own .u8 w 0 5 v Y
  ap : Apart F (ownFoot v)
  c : Chg [] W w (F ++ ownFoot v)
section
variable {W w w' : World} {F F' G' : List Nat} {v v' p : Value} {X Y X' Y' : List Nat}
theorem WW.write (h : WW W w F v p X Y) (hw : Wr w' F' p X') (hc : Chg F w w' F') : WW W w' F' v p X' Y :=
  ⟨hw, h.own.keep (hc.out h.own.lt h.ap), h.ap.chg hc h.own.lt, h.c.trans (hc.wide _)⟩
theorem WW.new_ (h : WW W w F v p X Y) (hc : Chg [] w w' G') : WW W w' F v p X Y :=
  ⟨h.wr.out hc (Apart.nilL _), h.own.keep (hc.out h.own.lt (Apart.nilL _)), h.ap, h.c.far hc (fun _ h => by cases h)⟩
theorem WW.app (h : WW W w F v p X Y) (hown : Own .u8 w' 0 5 v' Y') (hg : w.grownBy w' v.ownBlock) (hf : ∀ b ∈ ownFoot v', b ∈ ownFoot v ∨ w.heap.size ≤ b) : WW W w' F v' p X Y' := by
  refine ⟨h.wr.keep (keepBlocks hg h.wr.lt fun k hk e => h.ap k hk (mem_ownFoot.2 e)), hown, fun k hk hv => ?_, ?_⟩
  · rcases hf k hv with hh | hh
    · exact h.ap k hk hh
    · have := h.wr.lt k hk; omega
  · refine (h.c.grown hg fun k hk => List.mem_append_right _ (mem_ownFoot.2 hk)).less fun k hk => ?_
    rcases List.mem_append.1 hk with hk | hk
    · exact .inl (List.mem_append_left _ hk)
    · rcases hf k hk with hh | hh
      · exact .inl (List.mem_append_right _ hh)
      · exact .inr (Nat.le_trans h.c.size hh)
end

theorem eqB_self' (a : List Nat) : eqB a a = true := by simp [eqB]

set_option maxHeartbeats 3200000 in
set_option maxRecDepth 100000 in
theorem writes_any (w : World) (v : Value) (l : List O) (hs : Ops w v l) (hf : ∀ o ∈ l, Fit o) :
    Calls Try.prog 3 #[v] w (Yes w) := by
  obtain ⟨i0, hi, hz0, hz1, hz2⟩ := info_parts Try.info5
  have HS := hid hs
  obtain ⟨A, cap, rfl, hlc, hm, hc⟩ := hs
  obtain ⟨len, HL⟩ : ∃ len, Hid (len = l.length) := ⟨_, rfl⟩
  rw [← HL.out] at HS hlc ⊢
  have HC : Hid (∀ W' : World, Below w.heap.size w W' → ∀ (i : Nat) (o : O), l[i]? = some o → ∃ ad, A = some ad ∧ OpAt W' (ad.add (i * 3)) o) := fun W' hb i o hi => by
    obtain ⟨ad, ha, ho⟩ := hc i o hi
    exact ⟨ad, ha, ho.below hb⟩
  have HF := hid hf
  clear hc hf
  unfold maxLen at hm
  have hm' : len ≤ 9223372036854775807 := by omega
  by_cases hfew : fewB l = true
  · obtain ⟨hsm, hl40⟩ := fewB_yes hfew
    rw [← HL.out] at hl40
    have HSM := hid hsm
    have HFEW := hid hfew
    have HEL : ∀ k, Hid ((enc (l.take k)).length ≤ 4400) := fun k => by
      have h := enc_len (l.take k) (fun o ho => HF.out o (List.mem_of_mem_take ho)) (fun o ho => hsm o (List.mem_of_mem_take ho))
      have h2 : (l.take k).length ≤ 40 := by rw [List.length_take]; have := HL.out; omega
      show _ ≤ _
      omega
    have HEL' := hid HEL
    have H0 : Hid (WW w (w.alloc (.cells #[.slice none 0 0] 28)) [w.heap.size] (.slice none 0 0) (.pointer (some ⟨w.heap.size, 0, none⟩)) [] []) :=
      ⟨wr_new w, Own.nil _ _ _ _, Apart.nil _, ((Chg.refl [] w).add _).less fun k hk => by simp [ownFoot, Value.ownBlock] at hk; subst hk; exact .inl List.mem_cons_self⟩
    clear hsm hfew HEL
    go_enter Try.func3, Try.ntmps3
    go_wp2_with fail
    refine (few_any w _ l HS.out).mono ?_
    rw [HFEW.out]
    rintro e w' ⟨rfl, rfl⟩
    go_wp2_with fail
    go_loopw [4, 5] (fun v i wr => ∃ (k : Nat) (F : List Nat), k ≤ len ∧ i = .int .i64 k ∧ Hid (WW w wr F v (.pointer (some ⟨w.heap.size, 0, none⟩)) (enc (l.take k)) (enc (l.take k)))) (fun _ i _ => len - (intOf i).toNat)
    case atStart => exact ⟨0, _, by omega, rfl, H0.out⟩
    case round =>
      clear H0
      obtain ⟨k, F, hk, rfl, HW⟩ := hrel
      obtain ⟨A0, n0', c0, rfl⟩ := HW.out.own.slice
      by_cases hlt : k < len
      · obtain ⟨o, ho⟩ : ∃ b, l[k]? = some b := ⟨l[k]'(by have := HL.out; omega), List.getElem?_eq_getElem _⟩
        obtain ⟨ad, rfl, hc0, hc1, hc2⟩ := HC.out wr HW.out.c.nil_below k o ho
        have HO := hid (enc_snoc ho)
        have HFO := hid (HF.out o (List.mem_of_getElem? ho))
        have HSO := hid (HSM.out o (List.mem_of_getElem? ho))
        have HHO := hid ho
        clear ho
        obtain ⟨k0, n0, t0⟩ := o
        simp only at hc0 hc1 hc2
        have hlk : Hid ((enc (l.take k)).length ≤ 4400) := HEL'.out k
        have hlk1 : Hid ((enc (l.take (k + 1))).length ≤ 4400) := HEL'.out (k + 1)
        obtain ⟨E, HEE⟩ : ∃ E, Hid (E = enc (l.take k)) := ⟨_, rfl⟩
        rw [← HEE.out] at HW hlk HO
        by_cases h0 : k0 = 0
        · subst h0
          have HO' : Hid (enc (l.take (k + 1)) = E ++ uenc n0) := HO
          by_cases hn : n0 < 0
          · have HU0 : Hid (uenc n0 = []) := by show _ = _; unfold uenc; rw [if_pos hn]
            have hcode : ucode n0 = 10 := by unfold ucode; rw [if_pos hn]
            have HCD := hid hcode
            clear hcode
            go_wp2_with fail
            refine (wuint_any _ _ _ _ n0 HW.out.wr HFO.out.2 (by have := hlk.out; omega)).mono ?_
            rw [HCD.out]
            rintro e w1 ⟨rfl, F1, hw1, hc1'⟩
            have HW1 := hid (HW.out.write hw1 hc1')
            obtain ⟨ad', had, q0, q1, q2⟩ := HC.out w1 HW1.out.c.nil_below k _ HHO.out
            obtain rfl : ad = ad' := by injection had
            simp only at q0 q1 q2
            clear hw1 hc1' had
            have HN : Hid (WW w w1 F1 (.slice A0 n0' c0) (.pointer (some ⟨w.heap.size, 0, none⟩)) (enc (l.take (k + 1))) (enc (l.take (k + 1)))) := by
              have h := HW1.out
              rw [HO'.out, HU0.out, List.append_nil]
              rw [HU0.out, List.append_nil] at h
              exact h
            go_wp2_with fail
            go_roundw
            case rel => exact ⟨k + 1, _, by omega, by go_num, HN⟩
            case measure => simp [intOf]; omega
          · obtain ⟨m, rfl⟩ : ∃ m : Nat, n0 = (m : Int) := ⟨n0.toNat, by omega⟩
            have HU0 : Hid (uenc m = gr m) := by show _ = _; unfold uenc; rw [if_neg hn]; rfl
            rw [HU0.out] at HO'
            have hcode : ucode m = 0 := by unfold ucode; rw [if_neg hn]
            have HCD := hid hcode
            have hm63 : Hid (m < 9223372036854775808) := by have h : (m : Int) ≤ 9223372036854775807 := HFO.out.2; show _ < _; omega
            have HGL : Hid ((gr m).length ≤ 9) := gr_len9 hm63.out
            have hm0 : 0 ≤ (m : Int) := by omega
            clear hcode
            go_wp2_with fail
            refine (wuint_any _ _ _ _ m HW.out.wr HFO.out.2 (by have := hlk.out; omega)).mono ?_
            rw [HCD.out, HU0.out]
            rintro e w1 ⟨rfl, F1, hw1, hc1'⟩
            have HW1 := hid (HW.out.write hw1 hc1')
            clear hw1 hc1'
            obtain ⟨ad1, had1, q01, q11, q21⟩ := HC.out w1 HW1.out.c.nil_below k _ HHO.out
            obtain rfl : ad = ad1 := by injection had1
            simp only at q01 q11 q21
            clear had1
            go_wp2_with fail
            refine (refuint _ m hm63.out).mono ?_
            rintro e w2 ⟨u2, rfl, hu2, hc2'⟩
            have HU2 := hid hu2.sl
            have HW2 := hid (HW1.out.new_ hc2')
            obtain ⟨B2, b2, d2, rfl⟩ := hu2.slice
            clear hu2 hc2'
            go_wp2_with (at_builtin; refine wpList_append_at _ rfl (.tmp 57) (.tmp 63) 26 rfl 5 i0 (.int .u8 0) 1 Try.underlying26 hi hz0 hz1 hz2 rfl .u8 (.slice A0 n0' c0) E rfl HW2.out.own _ (gr m) rfl HU2.out (by have h1 := hlk.out; have h2 := HGL.out; unfold maxLen; omega) (by have h1 := hlk.out; have h2 := HGL.out; omega) ?_; intro v3 w3 hown3 hgrow3 hf3; have HW3 := hid (HW2.out.app hown3 hgrow3 hf3); obtain ⟨A3, n3', c3, rfl⟩ := hown3.slice; clear hown3 hgrow3 hf3)
            have HZ : Hid (WW w w3 F1 (.slice A3 n3' c3) (.pointer (some ⟨w.heap.size, 0, none⟩)) (enc (l.take (k + 1))) (enc (l.take (k + 1)))) := by rw [HO'.out]; exact HW3.out
            obtain ⟨E1, HE1⟩ : ∃ E1, Hid (E1 = enc (l.take (k + 1))) := ⟨_, rfl⟩
            rw [← HE1.out] at HZ hlk1
            refine (wbytes_fresh _ _ _ E1 HZ.out.wr (by have := hlk1.out; omega)).mono ?_
            rintro e w8 ⟨u8, rfl, hu8, hc8⟩
            have HU8 := hid hu8.sl
            have HZ8 := hid (HZ.out.new_ hc8)
            clear hu8 hc8
            go_wp2_with fail
            refine (bytes_any _ _ _ E1 E1 HU8.out HZ8.out.own.sl).mono ?_
            rw [show eqB E1 E1 = true from eqB_self' E1]
            rintro e w9 ⟨rfl, hb9⟩
            have HZ9 : Hid (WW w w9 F1 (.slice A3 n3' c3) (.pointer (some ⟨w.heap.size, 0, none⟩)) (enc (l.take (k + 1))) (enc (l.take (k + 1)))) := by
              rw [← HE1.out]
              exact HZ8.out.new_ (G' := []) ⟨hb9.os, hb9.tape, hb9.output, hb9.size, fun k hk _ => hb9.block k hk, fun _ h => by cases h⟩
            clear hb9
            go_wp2_with fail
            go_roundw
            case rel => exact ⟨k + 1, _, by omega, by go_num, HZ9⟩
            case measure => simp [intOf]; omega
        by_cases h1 : k0 = 1
        · subst h1
          have HO' : Hid (enc (l.take (k + 1)) = E ++ gr (zig n0)) := HO
          have HGL : Hid ((gr (zig n0)).length ≤ 10) := gr_len10 (zig_lt HFO.out.1 HFO.out.2)
          go_wp2_with fail
          refine (refint _ n0 HFO.out.1 HFO.out.2).mono ?_
          rintro e w2 ⟨u2, rfl, hu2, hc2'⟩
          have HU2 := hid hu2.sl
          have HW2 := hid (HW.out.new_ hc2')
          obtain ⟨B2, b2, d2, rfl⟩ := hu2.slice
          clear hu2 hc2'
          go_wp2_with (at_builtin; refine wpList_append_at _ rfl (.tmp 69) (.tmp 75) 26 rfl 5 i0 (.int .u8 0) 1 Try.underlying26 hi hz0 hz1 hz2 rfl .u8 (.slice A0 n0' c0) E rfl HW2.out.own _ (gr (zig n0)) rfl HU2.out (by have h1 := hlk.out; have h2 := HGL.out; unfold maxLen; omega) (by have h1 := hlk.out; have h2 := HGL.out; omega) ?_; intro v3 w3 hown3 hgrow3 hf3; have HW3 := hid (HW2.out.app hown3 hgrow3 hf3); obtain ⟨A3, n3', c3, rfl⟩ := hown3.slice; clear hown3 hgrow3 hf3; obtain ⟨ad3, had3, q03, q13, q23⟩ := HC.out w3 HW3.out.c.nil_below k _ HHO.out; obtain rfl : ad = ad3 := (by injection had3); clear had3)
          refine (wint _ _ _ _ n0 HW3.out.wr HFO.out.1 HFO.out.2 (by have := hlk.out; omega)).mono ?_
          rintro e w4 ⟨rfl, F4, hw4, hc4⟩
          have HW4 := hid (HW3.out.write hw4 hc4)
          clear hw4 hc4
          go_wp2_with fail
          have HZ : Hid (WW w w4 F4 (.slice A3 n3' c3) (.pointer (some ⟨w.heap.size, 0, none⟩)) (enc (l.take (k + 1))) (enc (l.take (k + 1)))) := by rw [HO'.out]; exact HW4.out
          obtain ⟨E1, HE1⟩ : ∃ E1, Hid (E1 = enc (l.take (k + 1))) := ⟨_, rfl⟩
          rw [← HE1.out] at HZ hlk1
          refine (wbytes_fresh _ _ _ E1 HZ.out.wr (by have := hlk1.out; omega)).mono ?_
          rintro e w8 ⟨u8, rfl, hu8, hc8⟩
          have HU8 := hid hu8.sl
          have HZ8 := hid (HZ.out.new_ hc8)
          clear hu8 hc8
          go_wp2_with fail
          refine (bytes_any _ _ _ E1 E1 HU8.out HZ8.out.own.sl).mono ?_
          rw [show eqB E1 E1 = true from eqB_self' E1]
          rintro e w9 ⟨rfl, hb9⟩
          have HZ9 : Hid (WW w w9 F4 (.slice A3 n3' c3) (.pointer (some ⟨w.heap.size, 0, none⟩)) (enc (l.take (k + 1))) (enc (l.take (k + 1)))) := by
            rw [← HE1.out]
            exact HZ8.out.new_ (G' := []) ⟨hb9.os, hb9.tape, hb9.output, hb9.size, fun k hk _ => hb9.block k hk, fun _ h => by cases h⟩
          clear hb9
          go_wp2_with fail
          go_roundw
          case rel => exact ⟨k + 1, _, by omega, by go_num, HZ9⟩
          case measure => simp [intOf]; omega
        · have HE0 : Hid (enc1 ⟨k0, n0, t0⟩ = tx (nums t0)) := by show _ = _; unfold enc1; rw [if_neg h0, if_neg h1]
          have HO' : Hid (enc (l.take (k + 1)) = E ++ tx (nums t0)) := by show _ = _; rw [HO.out, HE0.out]
          have HTS : Hid (t0.size ≤ 100) := HSO.out
          have HGL : Hid ((tx (nums t0)).length ≤ 110) := by show _ ≤ _; rw [tx_length, nums_len]; have := HTS.out; have := gr_len10 (n := t0.size) (by omega); omega
          have HST := hid (str_nums t0)
          go_wp2_with fail
          rw [← HST.out]
          refine (reftext _ (nums t0) (nums_byt _) (by rw [nums_len]; have := HTS.out; omega)).mono ?_
          rw [HST.out]
          rintro e w2 ⟨u2, rfl, hu2, hc2'⟩
          have HU2 := hid hu2.sl
          have HW2 := hid (HW.out.new_ hc2')
          obtain ⟨B2, b2, d2, rfl⟩ := hu2.slice
          clear hu2 hc2'
          go_wp2_with (at_builtin; refine wpList_append_at _ rfl (.tmp 24) (.tmp 30) 26 rfl 5 i0 (.int .u8 0) 1 Try.underlying26 hi hz0 hz1 hz2 rfl .u8 (.slice A0 n0' c0) E rfl HW2.out.own _ (tx (nums t0)) rfl HU2.out (by have h1 := hlk.out; have h2 := HGL.out; unfold maxLen; omega) (by have h1 := hlk.out; have h2 := HGL.out; omega) ?_; intro v3 w3 hown3 hgrow3 hf3; have HW3 := hid (HW2.out.app hown3 hgrow3 hf3); obtain ⟨A3, n3', c3, rfl⟩ := hown3.slice; clear hown3 hgrow3 hf3; obtain ⟨ad3, had3, q03, q13, q23⟩ := HC.out w3 HW3.out.c.nil_below k _ HHO.out; obtain rfl : ad = ad3 := (by injection had3); clear had3)
          rw [← HST.out]
          refine (wtext _ _ _ _ (nums t0) HW3.out.wr (nums_byt _) (by rw [nums_len]; have := HTS.out; omega) (by have := hlk.out; omega)).mono ?_
          rw [HST.out]
          rintro e w4 ⟨rfl, F4, hw4, hc4⟩
          have HW4 := hid (HW3.out.write hw4 hc4)
          clear hw4 hc4
          go_wp2_with fail
          have HZ : Hid (WW w w4 F4 (.slice A3 n3' c3) (.pointer (some ⟨w.heap.size, 0, none⟩)) (enc (l.take (k + 1))) (enc (l.take (k + 1)))) := by rw [HO'.out]; exact HW4.out
          obtain ⟨E1, HE1⟩ : ∃ E1, Hid (E1 = enc (l.take (k + 1))) := ⟨_, rfl⟩
          rw [← HE1.out] at HZ hlk1
          refine (wbytes_fresh _ _ _ E1 HZ.out.wr (by have := hlk1.out; omega)).mono ?_
          rintro e w8 ⟨u8, rfl, hu8, hc8⟩
          have HU8 := hid hu8.sl
          have HZ8 := hid (HZ.out.new_ hc8)
          clear hu8 hc8
          go_wp2_with fail
          refine (bytes_any _ _ _ E1 E1 HU8.out HZ8.out.own.sl).mono ?_
          rw [show eqB E1 E1 = true from eqB_self' E1]
          rintro e w9 ⟨rfl, hb9⟩
          have HZ9 : Hid (WW w w9 F4 (.slice A3 n3' c3) (.pointer (some ⟨w.heap.size, 0, none⟩)) (enc (l.take (k + 1))) (enc (l.take (k + 1)))) := by
            rw [← HE1.out]
            exact HZ8.out.new_ (G' := []) ⟨hb9.os, hb9.tape, hb9.output, hb9.size, fun k hk _ => hb9.block k hk, fun _ h => by cases h⟩
          clear hb9
          go_wp2_with fail
          go_roundw
          case rel => exact ⟨k + 1, _, by omega, by go_num, HZ9⟩
          case measure => simp [intOf]; omega
      · go_wp2_with fail
        refine (awake_any _).mono ?_
        rintro e w4 ⟨rfl, hb4⟩
        go_wp2
        go_ret
        exact ⟨rfl, below_step HW.out.c.nil_below hb4⟩
  · have HFEW : Hid (fewB l = false) := by show _ = _; simpa using hfew
    clear hfew
    go_enter Try.func3, Try.ntmps3
    go_wp2_with fail
    refine (few_any w _ l HS.out).mono ?_
    rw [HFEW.out]
    rintro e w' ⟨rfl, rfl⟩
    go_wp2_with fail
    refine (awake_any _).mono ?_
    rintro e w1 ⟨rfl, hb1⟩
    go_wp2
    go_ret
    exact ⟨rfl, hb1⟩
end Go.Proofs.Ytjhgebfabjbbjaa
