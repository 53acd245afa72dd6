import Derived.Test.YtjhgebfabjbbjaaT21
namespace Go.Proofs.Ytjhgebfabjbbjaa
open Go.RowKit

/-- What is written of a thing, and of all. -/
def enc1 (o : O) : List Nat := if o.k = 0 then uenc o.n else if o.k = 1 then gr (zig o.n) else tx (nums o.t)
def enc (l : List O) : List Nat := l.flatMap enc1
theorem enc_nil : enc [] = [] := rfl
theorem enc_snoc {l : List O} {k : Nat} {o : O} (h : l[k]? = some o) : enc (l.take (k + 1)) = enc (l.take k) ++ enc1 o := by
  unfold enc
  rw [List.take_add_one, h]; simp
theorem enc_drop {l : List O} {k : Nat} {o : O} (h : l[k]? = some o) : enc (l.drop k) = enc1 o ++ enc (l.drop (k + 1)) := by
  have hk : k < l.length := (List.getElem?_eq_some_iff.1 h).1
  have e : l.drop k = o :: l.drop (k + 1) := by
    rw [List.drop_eq_getElem_cons hk]
    congr 1
    rw [List.getElem?_eq_getElem hk] at h; injection h
  rw [e]; rfl
/-- A thing that may be. -/
def Fit (o : O) : Prop := -9223372036854775808 ≤ o.n ∧ o.n ≤ 9223372036854775807
theorem enc1_byt (o : O) : Byt (enc1 o) := by
  unfold enc1
  split
  · exact uenc_byt _
  · split
    · exact gr_byt _
    · exact tx_byt (nums_byt _)
theorem enc1_len {o : O} (hf : Fit o) (hs : o.t.size ≤ 100) : (enc1 o).length ≤ 110 := by
  unfold enc1
  split
  · have := uenc_len hf.2; omega
  · split
    · have := gr_len10 (zig_lt hf.1 hf.2); omega
    · rw [tx_length, nums_len]; have := gr_len10 (n := o.t.size) (by omega); omega
theorem enc_byt : ∀ l : List O, Byt (enc l)
  | [] => Byt.nil
  | o :: l => (enc1_byt o).app (enc_byt l)
theorem enc_len : ∀ (l : List O), (∀ o ∈ l, Fit o) → (∀ o ∈ l, o.t.size ≤ 100) → (enc l).length ≤ 110 * l.length
  | [], _, _ => by simp [enc]
  | o :: l, h1, h2 => by
    have ih := enc_len l (fun x hx => h1 x (List.mem_cons_of_mem _ hx)) (fun x hx => h2 x (List.mem_cons_of_mem _ hx))
    have h := enc1_len (h1 o List.mem_cons_self) (h2 o List.mem_cons_self)
    have e : enc (o :: l) = enc1 o ++ enc l := rfl
    rw [e, List.length_append, List.length_cons]; omega
theorem fewB_yes {l : List O} (h : fewB l = true) : (∀ o ∈ l, o.t.size ≤ 100) ∧ l.length ≤ 40 := by
  unfold fewB at h; exact of_decide_eq_true h

set_option maxHeartbeats 1600000 in
set_option maxRecDepth 100000 in
theorem back_any (w : World) (v : Value) (l : List O) (hs : Ops w v l) (hf : ∀ o ∈ l, Fit o) :
    Calls Try.prog 5 #[v] w (Yes w) := by
  have HS := hid hs
  obtain ⟨A, cap, rfl, hlc, hm, hc⟩ := hs
  obtain ⟨len, HL⟩ : ∃ len, Hid (len = l.length) := ⟨_, rfl⟩
  rw [← HL.out] at HS hlc ⊢
  have HC : Hid (∀ W' : World, Below w.heap.size w W' → ∀ (i : Nat) (o : O), l[i]? = some o → ∃ ad, A = some ad ∧ OpAt W' (ad.add (i * 3)) o) := fun W' hb i o hi => by
    obtain ⟨ad, ha, ho⟩ := hc i o hi
    exact ⟨ad, ha, ho.below hb⟩
  have HF := hid hf
  clear hc hf
  unfold maxLen at hm
  have hm' : len ≤ 9223372036854775807 := by omega
  by_cases hfew : fewB l = true
  · obtain ⟨hsm, hl40⟩ := fewB_yes hfew
    rw [← HL.out] at hl40
    have HSM := hid hsm
    have HFEW := hid hfew
    have HEL : ∀ k, Hid ((enc (l.take k)).length ≤ 4400) := fun k => by
      have h := enc_len (l.take k) (fun o ho => HF.out o (List.mem_of_mem_take ho)) (fun o ho => hsm o (List.mem_of_mem_take ho))
      have h2 : (l.take k).length ≤ 40 := by rw [List.length_take]; have := HL.out; omega
      show _ ≤ _
      omega
    have HED : ∀ k, Hid ((enc (l.drop k)).length ≤ 4400) := fun k => by
      have h := enc_len (l.drop k) (fun o ho => HF.out o (List.mem_of_mem_drop ho)) (fun o ho => hsm o (List.mem_of_mem_drop ho))
      have h2 : (l.drop k).length ≤ 40 := by rw [List.length_drop]; have := HL.out; omega
      show _ ≤ _
      omega
    have HEL' := hid HEL
    have HED' := hid HED
    have H0 := hid (wr_new w)
    have HC0 : Hid (Chg [] w (w.alloc (.cells #[.slice none 0 0] 28)) [w.heap.size]) := Chg.add (Chg.refl [] w) _
    clear hsm hfew HEL HED
    go_enter Try.func5, Try.ntmps5
    go_wp2_with fail
    refine (few_any w _ l HS.out).mono ?_
    rw [HFEW.out]
    rintro e w' ⟨rfl, rfl⟩
    go_wp2_with fail
    go_loopw [4] (fun i wr => ∃ (k : Nat) (F : List Nat), k ≤ len ∧ i = .int .i64 k ∧ Hid (Wr wr F (.pointer (some ⟨w.heap.size, 0, none⟩)) (enc (l.take k))) ∧ Hid (Chg [] w wr F)) (fun i _ => len - (intOf i).toNat)
    case atStart => exact ⟨0, _, by omega, rfl, H0.out, HC0.out⟩
    case round =>
      obtain ⟨k, F, hk, rfl, HW, HCH⟩ := hrel
      by_cases hlt : k < len
      · obtain ⟨o, ho⟩ : ∃ b, l[k]? = some b := ⟨l[k]'(by have := HL.out; omega), List.getElem?_eq_getElem _⟩
        obtain ⟨ad, rfl, hc0, hc1, hc2⟩ := HC.out wr HCH.out.nil_below k o ho
        have HO := hid (enc_snoc ho)
        have HFO := hid (HF.out o (List.mem_of_getElem? ho))
        have HSO := hid (HSM.out o (List.mem_of_getElem? ho))
        clear ho
        obtain ⟨k0, n0, t0⟩ := o
        simp only at hc0 hc1 hc2
        by_cases h0 : k0 = 0
        · subst h0
          go_wp2_with fail
          refine (wuint_any _ _ _ _ n0 HW.out HFO.out.2 (by have := (HEL'.out k).out; omega)).mono ?_
          rintro e w1 ⟨rfl, F1, hw1, hc1⟩
          have HW1 : Hid (Wr w1 F1 (.pointer (some ⟨w.heap.size, 0, none⟩)) (enc (l.take (k + 1)))) := by rw [HO.out]; exact hw1
          have HC1 := hid (HCH.out.trans hc1)
          clear hw1 hc1
          go_wp2_with fail
          go_roundw
          case rel => exact ⟨k + 1, _, by omega, by go_num, HW1, HC1⟩
          case measure => simp [intOf]; omega
        by_cases h1 : k0 = 1
        · subst h1
          go_wp2_with fail
          refine (wint _ _ _ _ n0 HW.out HFO.out.1 HFO.out.2 (by have := (HEL'.out k).out; omega)).mono ?_
          rintro e w1 ⟨rfl, F1, hw1, hc1⟩
          have HW1 : Hid (Wr w1 F1 (.pointer (some ⟨w.heap.size, 0, none⟩)) (enc (l.take (k + 1)))) := by rw [HO.out]; exact hw1
          have HC1 := hid (HCH.out.trans hc1)
          clear hw1 hc1
          go_wp2_with fail
          go_roundw
          case rel => exact ⟨k + 1, _, by omega, by go_num, HW1, HC1⟩
          case measure => simp [intOf]; omega
        · have HE1 : Hid (enc1 ⟨k0, n0, t0⟩ = tx (nums t0)) := by show _ = _; unfold enc1; rw [if_neg h0, if_neg h1]
          have HST := hid (str_nums t0)
          go_wp2_with fail
          rw [← HST.out]
          refine (wtext _ _ _ _ (nums t0) HW.out (nums_byt _) (by rw [nums_len]; have : t0.size ≤ 100 := HSO.out; omega) (by have := (HEL'.out k).out; omega)).mono ?_
          rw [HST.out]
          rintro e w1 ⟨rfl, F1, hw1, hc1⟩
          have HW1 : Hid (Wr w1 F1 (.pointer (some ⟨w.heap.size, 0, none⟩)) (enc (l.take (k + 1)))) := by rw [HO.out, HE1.out]; exact hw1
          have HC1 := hid (HCH.out.trans hc1)
          clear hw1 hc1
          go_wp2_with fail
          go_roundw
          case rel => exact ⟨k + 1, _, by omega, by go_num, HW1, HC1⟩
          case measure => simp [intOf]; omega
      · have hkl : Hid (k = len) := by show _ = _; omega
        have HWE : Hid (Wr wr F (.pointer (some ⟨w.heap.size, 0, none⟩)) (enc l)) := by
          have h := HW.out
          rw [hkl.out, HL.out, List.take_length] at h
          exact h
        have HLE : Hid ((enc l).length ≤ 4400) := by have h := (HEL'.out len).out; rw [HL.out, List.take_length] at h; exact h
        obtain ⟨E, HE⟩ : ∃ E, Hid (E = enc l) := ⟨_, rfl⟩
        rw [← HE.out] at HWE HLE
        go_wp2_with fail
        refine (wbytes_fresh _ _ _ E HWE.out (by have := HLE.out; omega)).mono ?_
        rintro e w1 ⟨u, rfl, hu, hc1⟩
        have HU := hid hu.sl
        have HB1 := hid (HCH.out.nil_below.trans (hc1.nil_below.mono HCH.out.size))
        obtain ⟨A1, cap1, rfl, _⟩ := hu.sl
        clear hu hc1
        go_wp2_with fail
        refine (read_new _ _ E HU.out).mono ?_
        rintro e w2 ⟨g, rfl, hR2, hc2⟩
        have HG : Hid (∀ k ∈ [g], w.heap.size ≤ k) := fun k hk => Nat.le_trans HB1.out.size (hc2.nil_from k hk)
        have HR2 := hid hR2
        have HB2 := hid (below_step HB1.out hc2.nil_below)
        clear hR2 hc2
        go_wp2_with fail
        refine (rleft _ g _ HR2.out).mono ?_
        rintro e w' ⟨rfl, rfl⟩
        have HR0 : Hid (Rd w2 g (enc (l.drop 0))) := by rw [List.drop_zero, ← HE.out]; exact HR2.out
        go_wp2_with fail
        go_loopw [7] (fun i wr => ∃ (k : Nat), k ≤ len ∧ i = .int .i64 k ∧ Hid (Rd wr g (enc (l.drop k))) ∧ Hid (Below w.heap.size w wr)) (fun i _ => len - (intOf i).toNat)
        case atStart => exact ⟨0, by omega, rfl, HR0, HB2⟩
        case round =>
          clear HR0 HB2 HB1 HR2 HU
          obtain ⟨k, hk, rfl, HR, HBE⟩ := hrel
          by_cases hlt : k < len
          · obtain ⟨o, ho⟩ : ∃ b, l[k]? = some b := ⟨l[k]'(by have := HL.out; omega), List.getElem?_eq_getElem _⟩
            obtain ⟨ad, rfl, hc0, hc1, hc2⟩ := HC.out wr HBE.out k o ho
            have HO := hid (enc_drop ho)
            have HFO := hid (HF.out o (List.mem_of_getElem? ho))
            have HSO := hid (HSM.out o (List.mem_of_getElem? ho))
            have HRL : Hid ((enc (l.drop (k + 1))).length ≤ 4400) := HED'.out (k + 1)
            have HRB : Hid (Byt (enc (l.drop (k + 1)))) := enc_byt _
            have HHO := hid ho
            clear ho
            obtain ⟨k0, n0, t0⟩ := o
            simp only at hc0 hc1 hc2
            rw [HO.out] at HR
            by_cases h0 : k0 = 0
            · subst h0
              by_cases hn : n0 < 0
              · have HE1 : Hid (enc1 ⟨0, n0, t0⟩ = []) := by show uenc n0 = []; unfold uenc; rw [if_pos hn]
                rw [HE1.out, List.nil_append] at HR
                go_wp2_with fail
                go_roundw
                case rel => exact ⟨k + 1, by omega, by go_num, HR, HBE⟩
                case measure => simp [intOf]; omega
              · obtain ⟨m, rfl⟩ : ∃ m : Nat, n0 = (m : Int) := ⟨n0.toNat, by omega⟩
                have HE1 : Hid (enc1 ⟨0, m, t0⟩ = gr m) := by show uenc m = _; unfold uenc; rw [if_neg hn]; rfl
                rw [HE1.out] at HR
                have hm63 : Hid (m < 9223372036854775808) := by have h : (m : Int) ≤ 9223372036854775807 := HFO.out.2; show _ < _; omega
                go_wp2_with fail
                refine (ruint_ok _ g m _ HR.out HRB.out hm63.out (by have := HRL.out; omega)).mono ?_
                rintro e w3 ⟨rfl, hR3, hc3⟩
                have HR3 := hid hR3
                have HB3 := hid (HBE.out.trans (hc3.below HG.out HBE.out.size))
                obtain ⟨ad', had, q0, q1, q2⟩ := HC.out w3 HB3.out k _ HHO.out
                obtain rfl : ad = ad' := by injection had
                simp only at q0 q1 q2
                clear hR3 hc3 had
                go_wp2_with fail
                go_roundw
                case rel => exact ⟨k + 1, by omega, by go_num, HR3, HB3⟩
                case measure => simp [intOf]; omega
            by_cases h1 : k0 = 1
            · subst h1
              have HR' : Hid (Rd wr g (gr (zig n0) ++ enc (l.drop (k + 1)))) := HR
              have HZ := hid (zig_lt HFO.out.1 HFO.out.2)
              go_wp2_with fail
              refine (rint_ok _ g (zig n0) _ HR'.out HRB.out HZ.out (by have := HRL.out; omega)).mono ?_
              rw [zag_zig]
              rintro e w3 ⟨rfl, hR3, hc3⟩
              have HR3 := hid hR3
              have HB3 := hid (HBE.out.trans (hc3.below HG.out HBE.out.size))
              obtain ⟨ad', had, q0, q1, q2⟩ := HC.out w3 HB3.out k _ HHO.out
              obtain rfl : ad = ad' := by injection had
              simp only at q0 q1 q2
              clear hR3 hc3 had
              go_wp2_with fail
              go_roundw
              case rel => exact ⟨k + 1, by omega, by go_num, HR3, HB3⟩
              case measure => simp [intOf]; omega
            · have HE1 : Hid (enc1 ⟨k0, n0, t0⟩ = gr (nums t0).length ++ nums t0) := by show _ = _; unfold enc1; rw [if_neg h0, if_neg h1]; rfl
              have hts : t0.size ≤ 100 := HSO.out
              have HR' : Hid (Rd wr g (gr (nums t0).length ++ (nums t0 ++ enc (l.drop (k + 1))))) := by have h := HR.out; rw [HE1.out, List.append_assoc] at h; exact h
              have HNL := hid (nums_len t0)
              have HTS := hid hts
              have HST := hid (str_nums t0)
              clear hts
              go_wp2_with fail
              refine (rtext_ok _ g 100 (nums t0).length _ HR'.out ((nums_byt _).app HRB.out) (by have := HNL.out; have := HTS.out; omega) (by have := HNL.out; have := HTS.out; omega) (by rw [List.length_append]; omega) (by rw [List.length_append]; have := HRL.out; have := HNL.out; have := HTS.out; omega)).mono ?_
              rw [List.take_left, List.drop_left, HST.out]
              rintro e w3 ⟨rfl, hR3, hc3⟩
              have HR3 := hid hR3
              have HB3 := hid (HBE.out.trans (hc3.below HG.out HBE.out.size))
              obtain ⟨ad', had, q0, q1, q2⟩ := HC.out w3 HB3.out k _ HHO.out
              obtain rfl : ad = ad' := by injection had
              simp only at q0 q1 q2
              clear hR3 hc3 had
              go_wp2_with fail
              go_roundw
              case rel => exact ⟨k + 1, by omega, by go_num, HR3, HB3⟩
              case measure => simp [intOf]; omega
          · have hkl : Hid (k = len) := by show _ = _; omega
            have HRE : Hid (Rd wr g []) := by
              have h := HR.out
              rw [hkl.out, HL.out, List.drop_length, enc_nil] at h
              exact h
            go_wp2_with fail
            refine (rleft _ g [] HRE.out).mono ?_
            rintro e w' ⟨rfl, rfl⟩
            go_wp2_with fail
            refine (awake_any _).mono ?_
            rintro e w4 ⟨rfl, hb4⟩
            go_wp2
            go_ret
            exact ⟨rfl, below_step HBE.out hb4⟩
  · have HFEW : Hid (fewB l = false) := by show _ = _; simpa using hfew
    clear hfew
    go_enter Try.func5, Try.ntmps5
    go_wp2_with fail
    refine (few_any w _ l HS.out).mono ?_
    rw [HFEW.out]
    rintro e w' ⟨rfl, rfl⟩
    go_wp2_with fail
    refine (awake_any _).mono ?_
    rintro e w1 ⟨rfl, hb1⟩
    go_wp2
    go_ret
    exact ⟨rfl, hb1⟩
end Go.Proofs.Ytjhgebfabjbbjaa
