import Derived.Test.YtjhgebfabjbbjaaT24
namespace Go.Proofs.Ytjhgebfabjbbjaa
open Go.RowKit

theorem run_cut_part (W : World) (A : Option Addr) (len cap a h : Nat) (ha : a ≤ h) (hh : h ≤ cap) :
    (Instr.slice 26 (.slice A len cap) (some (.int .i64 (a : Int))) (some (.int .i64 (h : Int))) none).run Try.prog W = .ok (sliced A a h cap 1) W := by
  have q := run_slice_lh (P := Try.prog) (w := W) 26 A len cap (by rw [elem26]; exact Try.underlying26) .i64 .i64 (a : Int) (h : Int) (by omega) (by omega) (by omega)
  rw [elem26, run_size5] at q
  simpa [Result.andThen] using q
theorem Rd.drewN {w : World} {g : Nat} {xs : List Nat} (h : Rd w g xs) (n : Nat) : Rd (w.drewN n) g xs := h
theorem x_cells {w2 w3 : World} {g : Nat} {a b c : Value} {t : TypeId} (h : Chg [g] (w2.alloc (.cells #[a, b, c] t)) w3 [g]) (hg : g < w2.heap.size) :
    w3.cell? ⟨w2.heap.size, 0, none⟩ = some a ∧ w3.cell? ⟨w2.heap.size, 1, none⟩ = some b ∧ w3.cell? ⟨w2.heap.size, 2, none⟩ = some c := by
  have e : w3.heap[w2.heap.size]? = some (.cells #[a, b, c] t (0, 0)) := by
    rw [h.block _ (by simp) (by simp; omega)]; exact heap_alloc_new w2 _
  obtain ⟨p1, p2, p3, _⟩ := row_cells e
  exact ⟨p1, p2, p3⟩

set_option maxHeartbeats 12800000 in
set_option maxRecDepth 100000 in
theorem reads_any (w : World) (v u : Value) (xs : List Nat) (l : List O) (hv : Sl .u8 w v xs) (hb : Byt xs) (hs : Ops w u l) (hf : ∀ o ∈ l, Fit o) :
    Calls Try.prog 4 #[v, u] w (Yes w) := by
  have HS := hid hs
  have HV := hid hv
  have HB := hid hb
  obtain ⟨A, cap, rfl, hlc, hm, _⟩ := hv
  obtain ⟨A', cap', rfl, hlc', hm', hc⟩ := hs
  obtain ⟨len, HL⟩ : ∃ len, Hid (len = xs.length) := ⟨_, rfl⟩
  obtain ⟨len', HL'⟩ : ∃ len, Hid (len = l.length) := ⟨_, rfl⟩
  rw [← HL.out] at HV hlc ⊢
  rw [← HL'.out] at HS hlc' ⊢
  have HC : Hid (∀ W' : World, Below w.heap.size w W' → ∀ (i : Nat) (o : O), l[i]? = some o → ∃ ad, A' = some ad ∧ OpAt W' (ad.add (i * 3)) o) := fun W' hb i o hi => by
    obtain ⟨ad, ha, ho⟩ := hc i o hi
    exact ⟨ad, ha, ho.below hb⟩
  have HF := hid hf
  clear hc hf hb
  unfold maxLen at hm hm'
  by_cases hl : 100 < len
  · go_enter Try.func4, Try.ntmps4
    go_wp2_with fail
    refine (awake_any w).mono ?_
    rintro e w' ⟨rfl, hb'⟩
    go_wp2
    go_ret
    exact ⟨rfl, hb'⟩
  by_cases hl' : 40 < len'
  · go_enter Try.func4, Try.ntmps4
    go_wp2_with fail
    refine (awake_any w).mono ?_
    rintro e w' ⟨rfl, hb'⟩
    go_wp2
    go_ret
    exact ⟨rfl, hb'⟩
  have hln : len ≤ 100 := by omega
  have hln' : len' ≤ 40 := by omega
  go_enter Try.func4, Try.ntmps4
  go_wp2_with fail
  refine (read_new _ _ xs HV.out).mono ?_
  rintro e w1 ⟨g, rfl, hR1, hc1⟩
  have HG : Hid (∀ k ∈ [g], w.heap.size ≤ k) := fun k hk => hc1.nil_from k hk
  have HR1 := hid hR1
  have HB1 := hid hc1.nil_below
  clear hR1 hc1
  go_wp2_with fail
  go_loopw [6, 7] (fun at_ i wr => ∃ (k a : Nat), k ≤ len' ∧ i = .int .i64 k ∧ a ≤ len ∧ at_ = .int .i64 a ∧ Hid (Rd wr g (xs.drop a)) ∧ Hid (Below w.heap.size w wr)) (fun _ i _ => len' - (intOf i).toNat)
  case atStart => exact ⟨0, 0, by omega, rfl, by omega, rfl, by rw [List.drop_zero]; exact HR1.out, HB1.out⟩
  case round =>
    clear HR1 HB1
    obtain ⟨k, a, hk, rfl, ha, rfl, HR, HBE⟩ := hrel
    by_cases hlt : k < len'
    · obtain ⟨o, ho⟩ : ∃ b, l[k]? = some b := ⟨l[k]'(by have := HL'.out; omega), List.getElem?_eq_getElem _⟩
      obtain ⟨ad, rfl, hc0, hc1, hc2⟩ := HC.out wr HBE.out k o ho
      have HFO := hid (HF.out o (List.mem_of_getElem? ho))
      have HHO := hid ho
      clear ho
      obtain ⟨k0, n0, t0⟩ := o
      simp only at hc0 hc1 hc2
      have hcut := fun W => run_cut_from W A len cap a ha
      have HD : Hid (Sl .u8 wr (sliced A a len cap 1) (xs.drop a)) := by
        have h := cut_sl (HV.out.below HBE.out) (a := a) (h := len) ha (Nat.le_refl _)
        rw [List.take_of_length_le (by rw [List.length_drop, HL.out]; omega)] at h
        exact h
      obtain ⟨V, HVV⟩ : ∃ V, Hid (V = sliced A a len cap 1) := ⟨_, rfl⟩
      simp only [← HVV.out] at hcut HD
      have ha' : (a : Int) ≤ len := by omega
      obtain ⟨D, HDD⟩ : ∃ D, Hid (D = xs.drop a) := ⟨_, rfl⟩
      have HDL : Hid (D.length = len - a) := by show _ = _; rw [HDD.out, List.length_drop, HL.out]
      have HDB : Hid (Byt D) := by rw [HDD.out]; exact HB.out.drop a
      rw [← HDD.out] at HD HR
      rcases gr_dec D with ⟨N, rest, hN, hD⟩ | hno
      · have HD0 := hid hD
        have H64 := hid hN
        have HRB : Hid (Byt rest) := by have h := HDB.out; rw [hD] at h; exact h.right
        obtain ⟨dl, HDLn⟩ : ∃ dl, Hid (dl = D.length) := ⟨_, rfl⟩
        obtain ⟨rl, HRLn⟩ : ∃ rl, Hid (rl = rest.length) := ⟨_, rfl⟩
        obtain ⟨S, HSn⟩ : ∃ S, Hid (S = (gr N).length) := ⟨_, rfl⟩
        have hdls : dl = S + rl := by rw [HDLn.out, hD, List.length_append, ← HSn.out, ← HRLn.out]
        have hS1 : 1 ≤ S := by rw [HSn.out]; exact gr_pos N
        have hdla : dl = len - a := by rw [HDLn.out, HDL.out]
        have hlen : len = a + S + rl := by omega
        have hdl : (len : Int) - (a : Int) = (dl : Int) := by omega
        have hdl2 : (dl : Int) - (S : Int) = (rl : Int) := by omega
        have hdl3 : (len : Int) - ((a : Int) + (S : Int)) = (rl : Int) := by omega
        have hrdl : (rl : Int) < dl := by omega
        have hS1' : 1 ≤ (S : Int) := by omega
        have HDR : Hid (rest = xs.drop (a + S)) := by
          show _ = _
          rw [← List.drop_drop, ← HDD.out, hD, HSn.out, List.drop_left]
        have hlrl : rl ≤ 100 := by omega
        have hSle : S ≤ 100 := by omega
        have HLEN := hid hlen
        have HDLS := hid hdls
        obtain ⟨h, Hh⟩ : ∃ h, Hid (h = N / 2) := ⟨_, rfl⟩
        obtain ⟨o, Ho⟩ : ∃ o, Hid (o = N % 2) := ⟨_, rfl⟩
        have ho1 : o ≤ 1 := by rw [Ho.out]; omega
        have hhN : 2 * h + o = N := by rw [Hh.out, Ho.out]; omega
        have HHN := hid hhN
        have HDs : Hid (Sl .u8 wr V (gr N ++ rest)) := by rw [← hD]; exact HD.out
        clear hD hlen hdls hdla hhN hN
        go_wp2_with fail
        refine (refread_yes _ _ N rest HDs.out HRB.out H64.out (by rw [List.length_append, ← HSn.out, ← HRLn.out]; omega)).mono ?_
        rw [← Hh.out, ← Ho.out, ← HSn.out]
        rintro e w2 ⟨rfl, hb2⟩
        have HB2 := hid hb2
        have HB2W : Hid (Below w.heap.size w (w2.alloc (.cells #[.int .i64 h, .int .i64 o, .int .i64 S] 41))) := (below_step HBE.out hb2).alloc (by have := hb2.size; have := HBE.out.size; omega) _
        have hglt : g < w2.heap.size := by have := One.lt HR.out; have := hb2.size; omega
        have HGL := hid hglt
        have HR2 : Hid (Rd (w2.alloc (.cells #[.int .i64 h, .int .i64 o, .int .i64 S] 41)) g D) := One.alloc (One.keep HR.out (hb2.block g (One.lt HR.out))) _
        clear hb2 hcut hglt
        obtain ⟨ad', had, p0, p1, p2⟩ := HC.out _ HB2W.out k _ HHO.out
        obtain rfl : ad = ad' := by injection had
        simp only at p0 p1 p2
        clear had
        by_cases h63 : N < 9223372036854775808
        · have H63 := hid h63
          have hd62 : decide ((4611686018427387904 : Int) ≤ (h : Int)) = false := by rw [decide_eq_false_iff_not]; have := HHN.out; omega
          have hNN : 2 * (h : Int) + (o : Int) = (N : Int) := by have := HHN.out; omega
          have hw1 : IntKind.i64.wrap (2 * (h : Int)) = 2 * (h : Int) := IntWalk.i64_in _ (by have := HHN.out; omega)
          have hw2 : IntKind.i64.wrap (N : Int) = (N : Int) := IntWalk.i64_in _ (by omega)
          clear h63
          by_cases h0 : k0 = 0
          · as_aux_lemma =>
              subst h0
              go_wp2_with fail
              refine (ruint_ok _ g N rest (by rw [← HD0.out]; exact HR2.out) HRB.out H63.out (by have := HRLn.out; omega)).mono ?_
              rintro e w3 ⟨rfl, hR3, hc3⟩
              obtain ⟨x0, x1, x2⟩ := x_cells hc3 HGL.out
              have HB3 := hid (HB2W.out.trans (hc3.below HG.out HB2W.out.size))
              have HR3 := hid hR3
              obtain ⟨ad', had, q0, q1, q2⟩ := HC.out w3 HB3.out k _ HHO.out
              obtain rfl : ad = ad' := by injection had
              simp only at q0 q1 q2
              clear had hR3 hc3 p0 p1 p2
              go_wp2_with fail
              refine (rleft _ g _ HR3.out).mono ?_
              rw [← HRLn.out]
              rintro e w' ⟨rfl, rfl⟩
              go_wp2_with fail
              refine (rleft _ g _ HR3.out).mono ?_
              rw [← HRLn.out]
              rintro e w' ⟨rfl, rfl⟩
              go_wp2_with fail
              go_roundw
              case rel => exact ⟨k + 1, a + S, by omega, by go_num, by omega, by go_num, by rw [← HDR.out]; exact HR3.out, HB3.out⟩
              case measure => simp [intOf]; omega
          by_cases h1 : k0 = 1
          · subst h1
            clear hw1 hw2
            by_cases hodd : (o : Int) ≤ 0
            · as_aux_lemma =>
                have HZ : Hid (zag N = (h : Int)) := by show _ = _; unfold zag; have := Ho.out; have := Hh.out; rw [if_neg (by omega)]; omega
                go_wp2_with fail
                refine (rint_ok _ g N rest (by rw [← HD0.out]; exact HR2.out) HRB.out H64.out (by have := HRLn.out; omega)).mono ?_
                rw [HZ.out]
                rintro e w3 ⟨rfl, hR3, hc3⟩
                obtain ⟨x0, x1, x2⟩ := x_cells hc3 HGL.out
                have HB3 := hid (HB2W.out.trans (hc3.below HG.out HB2W.out.size))
                have HR3 := hid hR3
                obtain ⟨ad', had, q0, q1, q2⟩ := HC.out w3 HB3.out k _ HHO.out
                obtain rfl : ad = ad' := by injection had
                simp only at q0 q1 q2
                clear had hR3 hc3 p0 p1 p2
                go_wp2_with fail
                refine (rleft _ g _ HR3.out).mono ?_
                rw [← HRLn.out]
                rintro e w' ⟨rfl, rfl⟩
                go_wp2_with fail
                refine (rleft _ g _ HR3.out).mono ?_
                rw [← HRLn.out]
                rintro e w' ⟨rfl, rfl⟩
                go_wp2_with fail
                go_roundw
                case rel => exact ⟨k + 1, a + S, by omega, by go_num, by omega, by go_num, by rw [← HDR.out]; exact HR3.out, HB3.out⟩
                case measure => simp [intOf]; omega
            · as_aux_lemma =>
                have hodd1 : 1 ≤ (o : Int) := by omega
                have hodd2 : (o : Int) ≤ 1 := by omega
                have hwz : IntKind.i64.wrap (-1 - (h : Int)) = -1 - (h : Int) := IntWalk.i64_in _ (by have := HHN.out; have := H64.out; omega)
                have HZ : Hid (zag N = -1 - (h : Int)) := by show _ = _; unfold zag; have := Ho.out; have := Hh.out; rw [if_pos (by omega)]; omega
                go_wp2_with fail
                refine (rint_ok _ g N rest (by rw [← HD0.out]; exact HR2.out) HRB.out H64.out (by have := HRLn.out; omega)).mono ?_
                rw [HZ.out]
                rintro e w3 ⟨rfl, hR3, hc3⟩
                obtain ⟨x0, x1, x2⟩ := x_cells hc3 HGL.out
                have HB3 := hid (HB2W.out.trans (hc3.below HG.out HB2W.out.size))
                have HR3 := hid hR3
                obtain ⟨ad', had, q0, q1, q2⟩ := HC.out w3 HB3.out k _ HHO.out
                obtain rfl : ad = ad' := by injection had
                simp only at q0 q1 q2
                clear had hR3 hc3 p0 p1 p2
                go_wp2_with fail
                refine (rleft _ g _ HR3.out).mono ?_
                rw [← HRLn.out]
                rintro e w' ⟨rfl, rfl⟩
                go_wp2_with fail
                refine (rleft _ g _ HR3.out).mono ?_
                rw [← HRLn.out]
                rintro e w' ⟨rfl, rfl⟩
                go_wp2_with fail
                go_roundw
                case rel => exact ⟨k + 1, a + S, by omega, by go_num, by omega, by go_num, by rw [← HDR.out]; exact HR3.out, HB3.out⟩
                case measure => simp [intOf]; omega
          by_cases hm : (N : Int) ≤ n0
          · by_cases hsh : N ≤ rl
            · have hka : (k0 == 0) = false := by simpa using h0
              have hkb : (k0 != 0) = true := by simpa using h0
              have hkc : (k0 == 1) = false := by simpa using h1
              have hkd : (k0 != 1) = true := by simpa using h1
              have hcut2 := fun W => run_cut_part W A len cap (a + S) (a + S + N) (by omega) (by have := HLEN.out; omega)
              have hsl2 : Sl .u8 w (sliced A (a + S) (a + S + N) cap 1) (rest.take N) := by
                have q := cut_sl HV.out (a := a + S) (h := a + S + N) (by omega) (by have := HLEN.out; omega)
                rw [← HDR.out, show a + S + N - (a + S) = N by omega] at q
                exact q
              obtain ⟨V2, HVV2⟩ : ∃ V2, Hid (V2 = sliced A (a + S) (a + S + N) cap 1) := ⟨_, rfl⟩
              simp only [← HVV2.out, Int.natCast_add] at hcut2 hsl2
              obtain ⟨rl2, HRL2⟩ : ∃ r, Hid (r = (rest.drop N).length) := ⟨_, rfl⟩
              have hrl2 : rl2 + N = rl := by rw [HRL2.out, List.length_drop, HRLn.out]; have := HRLn.out; omega
              have hdl4 : (len : Int) - ((a : Int) + (N : Int) + (S : Int)) = (rl2 : Int) := by have := HLEN.out; omega
              have hrdl2 : (rl2 : Int) < dl := by have := HDLS.out; omega
              have hrn : (rl : Int) - (N : Int) = (rl2 : Int) := by omega
              have HDR2 : Hid (rest.drop N = xs.drop (a + N + S)) := by show _ = _; rw [HDR.out, List.drop_drop]; congr 1; omega
              have HR22 := hid hrl2
              have hNl : N ≤ 100 := by omega
              have hshi : (N : Int) ≤ rl := by omega
              have HSL2 := hid hsl2
              have HSTR := fun (W : World) (q : Sl .u8 W V2 (rest.take N)) => q.str (P := Try.prog) 26 5 9 Try.underlying26 Try.underlying5 Try.underlying9
              obtain ⟨T, HT⟩ : ∃ T, Hid (T = str (rest.take N)) := ⟨_, rfl⟩
              rw [← HT.out] at HSTR
              have HSTR' := hid HSTR
              clear hsl2 HSTR hrl2
              go_wp2_with fail
              refine (rtext_ok _ g n0 N rest (by rw [← HD0.out]; exact HR2.out) HRB.out H63.out hm (by have := HRLn.out; omega) (by have := HRLn.out; omega)).mono ?_
              rw [← HT.out]
              rintro e w3 ⟨rfl, hR3, hc3⟩
              obtain ⟨x0, x1, x2⟩ := x_cells hc3 HGL.out
              have HB3 := hid (HB2W.out.trans (hc3.below HG.out HB2W.out.size))
              have HR3 := hid hR3
              obtain ⟨ad', had, q0, q1, q2⟩ := HC.out w3 HB3.out k _ HHO.out
              obtain rfl : ad = ad' := by injection had
              simp only at q0 q1 q2
              clear had hR3 hc3 p0 p1 p2
              have hcv := fun n => HSTR'.out (w3.drewN n) ((HSL2.out.below HB3.out).drewN n)
              go_wp2_with fail
              go_quiet (fail)
              go_wp2_with fail
              refine (rleft _ g _ (HR3.out.drewN _)).mono ?_
              rw [← HRL2.out]
              rintro e w' ⟨rfl, rfl⟩
              go_wp2_with fail
              refine (rleft _ g _ (HR3.out.drewN _)).mono ?_
              rw [← HRL2.out]
              rintro e w' ⟨rfl, rfl⟩
              go_wp2_with fail
              go_roundw
              case rel => exact ⟨k + 1, a + N + S, by omega, by go_num, by have := HLEN.out; omega, by go_num, by rw [← HDR2.out]; exact HR3.out, below_drewN' HB3.out _⟩
              case measure => simp [intOf]; omega
            · have hsh' : (rl : Int) < N := by omega
              have hka : (k0 == 0) = false := by simpa using h0
              have hkb : (k0 != 0) = true := by simpa using h0
              have hkc : (k0 == 1) = false := by simpa using h1
              have hkd : (k0 != 1) = true := by simpa using h1
              go_wp2_with fail
              refine (rtext_short _ g n0 N rest (by rw [← HD0.out]; exact HR2.out) HRB.out H63.out hm (by have := HRLn.out; omega) (by have := HRLn.out; omega)).mono ?_
              rintro e w3 ⟨rfl, hR3, hc3⟩
              obtain ⟨x0, x1, x2⟩ := x_cells hc3 HGL.out
              have HB3 := hid (HB2W.out.trans (hc3.below HG.out HB2W.out.size))
              have HR3 := hid hR3
              obtain ⟨ad', had, q0, q1, q2⟩ := HC.out w3 HB3.out k _ HHO.out
              obtain rfl : ad = ad' := by injection had
              simp only at q0 q1 q2
              clear had hR3 hc3 p0 p1 p2
              go_wp2_with fail
              go_quiet (fail)
              go_wp2_with fail
              refine (rleft _ g _ (HR3.out.drewN _)).mono ?_
              rw [← HD0.out, ← HDLn.out]
              rintro e w' ⟨rfl, rfl⟩
              go_wp2_with fail
              go_roundw
              case rel => exact ⟨k + 1, a, by omega, by go_num, by omega, rfl, by rw [← HDD.out, HD0.out]; exact HR3.out, below_drewN' HB3.out _⟩
              case measure => simp [intOf]; omega
          · have hm' : n0 < (N : Int) := by omega
            have hka : (k0 == 0) = false := by simpa using h0
            have hkb : (k0 != 0) = true := by simpa using h0
            have hkc : (k0 == 1) = false := by simpa using h1
            have hkd : (k0 != 1) = true := by simpa using h1
            go_wp2_with fail
            refine (rtext_size _ g n0 N rest (by rw [← HD0.out]; exact HR2.out) HRB.out H63.out hm' (by have := HRLn.out; omega)).mono ?_
            rintro e w3 ⟨rfl, hR3, hc3⟩
            obtain ⟨x0, x1, x2⟩ := x_cells hc3 HGL.out
            have HB3 := hid (HB2W.out.trans (hc3.below HG.out HB2W.out.size))
            have HR3 := hid hR3
            obtain ⟨ad', had, q0, q1, q2⟩ := HC.out w3 HB3.out k _ HHO.out
            obtain rfl : ad = ad' := by injection had
            simp only at q0 q1 q2
            clear had hR3 hc3 p0 p1 p2
            go_wp2_with fail
            go_quiet (fail)
            go_wp2_with fail
            refine (rleft _ g _ (HR3.out.drewN _)).mono ?_
            rw [← HD0.out, ← HDLn.out]
            rintro e w' ⟨rfl, rfl⟩
            go_wp2_with fail
            go_roundw
            case rel => exact ⟨k + 1, a, by omega, by go_num, by omega, rfl, by rw [← HDD.out, HD0.out]; exact HR3.out, below_drewN' HB3.out _⟩
            case measure => simp [intOf]; omega
        · have hd62 : decide ((4611686018427387904 : Int) ≤ (h : Int)) = true := by rw [decide_eq_true_iff]; have := HHN.out; omega
          have H63 : Hid (9223372036854775808 ≤ N) := by show _ ≤ _; omega
          clear h63
          by_cases h0 : k0 = 0
          · as_aux_lemma =>
              subst h0
              go_wp2_with fail
              refine (ruint_range _ g N rest (by rw [← HD0.out]; exact HR2.out) HRB.out H63.out H64.out (by have := HRLn.out; omega)).mono ?_
              rintro e w3 ⟨rfl, hR3, hc3⟩
              obtain ⟨x0, x1, x2⟩ := x_cells hc3 HGL.out
              have HB3 := hid (HB2W.out.trans (hc3.below HG.out HB2W.out.size))
              have HR3 := hid hR3
              obtain ⟨ad', had, q0, q1, q2⟩ := HC.out w3 HB3.out k _ HHO.out
              obtain rfl : ad = ad' := by injection had
              simp only at q0 q1 q2
              clear had hR3 hc3 p0 p1 p2
              go_wp2_with fail
              refine (rleft _ g _ HR3.out).mono ?_
              rw [← HD0.out, ← HDLn.out]
              rintro e w' ⟨rfl, rfl⟩
              go_wp2_with fail
              go_roundw
              case rel => exact ⟨k + 1, a, by omega, by go_num, by omega, rfl, by rw [← HDD.out, HD0.out]; exact HR3.out, HB3.out⟩
              case measure => simp [intOf]; omega
          by_cases h1 : k0 = 1
          · subst h1
            by_cases hodd : (o : Int) ≤ 0
            · as_aux_lemma =>
                have HZ : Hid (zag N = (h : Int)) := by show _ = _; unfold zag; have := Ho.out; have := Hh.out; rw [if_neg (by omega)]; omega
                go_wp2_with fail
                refine (rint_ok _ g N rest (by rw [← HD0.out]; exact HR2.out) HRB.out H64.out (by have := HRLn.out; omega)).mono ?_
                rw [HZ.out]
                rintro e w3 ⟨rfl, hR3, hc3⟩
                obtain ⟨x0, x1, x2⟩ := x_cells hc3 HGL.out
                have HB3 := hid (HB2W.out.trans (hc3.below HG.out HB2W.out.size))
                have HR3 := hid hR3
                obtain ⟨ad', had, q0, q1, q2⟩ := HC.out w3 HB3.out k _ HHO.out
                obtain rfl : ad = ad' := by injection had
                simp only at q0 q1 q2
                clear had hR3 hc3 p0 p1 p2
                go_wp2_with fail
                refine (rleft _ g _ HR3.out).mono ?_
                rw [← HRLn.out]
                rintro e w' ⟨rfl, rfl⟩
                go_wp2_with fail
                refine (rleft _ g _ HR3.out).mono ?_
                rw [← HRLn.out]
                rintro e w' ⟨rfl, rfl⟩
                go_wp2_with fail
                go_roundw
                case rel => exact ⟨k + 1, a + S, by omega, by go_num, by omega, by go_num, by rw [← HDR.out]; exact HR3.out, HB3.out⟩
                case measure => simp [intOf]; omega
            · as_aux_lemma =>
                have hodd1 : 1 ≤ (o : Int) := by omega
                have hodd2 : (o : Int) ≤ 1 := by omega
                have hwz : IntKind.i64.wrap (-1 - (h : Int)) = -1 - (h : Int) := IntWalk.i64_in _ (by have := HHN.out; have := H64.out; omega)
                have HZ : Hid (zag N = -1 - (h : Int)) := by show _ = _; unfold zag; have := Ho.out; have := Hh.out; rw [if_pos (by omega)]; omega
                go_wp2_with fail
                refine (rint_ok _ g N rest (by rw [← HD0.out]; exact HR2.out) HRB.out H64.out (by have := HRLn.out; omega)).mono ?_
                rw [HZ.out]
                rintro e w3 ⟨rfl, hR3, hc3⟩
                obtain ⟨x0, x1, x2⟩ := x_cells hc3 HGL.out
                have HB3 := hid (HB2W.out.trans (hc3.below HG.out HB2W.out.size))
                have HR3 := hid hR3
                obtain ⟨ad', had, q0, q1, q2⟩ := HC.out w3 HB3.out k _ HHO.out
                obtain rfl : ad = ad' := by injection had
                simp only at q0 q1 q2
                clear had hR3 hc3 p0 p1 p2
                go_wp2_with fail
                refine (rleft _ g _ HR3.out).mono ?_
                rw [← HRLn.out]
                rintro e w' ⟨rfl, rfl⟩
                go_wp2_with fail
                refine (rleft _ g _ HR3.out).mono ?_
                rw [← HRLn.out]
                rintro e w' ⟨rfl, rfl⟩
                go_wp2_with fail
                go_roundw
                case rel => exact ⟨k + 1, a + S, by omega, by go_num, by omega, by go_num, by rw [← HDR.out]; exact HR3.out, HB3.out⟩
                case measure => simp [intOf]; omega
          · as_aux_lemma =>
              go_wp2_with fail
              refine (rtext_range _ g n0 N rest (by rw [← HD0.out]; exact HR2.out) HRB.out H63.out H64.out (by have := HRLn.out; omega)).mono ?_
              rintro e w3 ⟨rfl, hR3, hc3⟩
              obtain ⟨x0, x1, x2⟩ := x_cells hc3 HGL.out
              have HB3 := hid (HB2W.out.trans (hc3.below HG.out HB2W.out.size))
              have HR3 := hid hR3
              obtain ⟨ad', had, q0, q1, q2⟩ := HC.out w3 HB3.out k _ HHO.out
              obtain rfl : ad = ad' := by injection had
              simp only at q0 q1 q2
              clear had hR3 hc3 p0 p1 p2
              go_wp2_with fail
              refine (rleft _ g _ HR3.out).mono ?_
              rw [← HD0.out, ← HDLn.out]
              rintro e w' ⟨rfl, rfl⟩
              go_wp2_with fail
              go_roundw
              case rel => exact ⟨k + 1, a, by omega, by go_num, by omega, rfl, by rw [← HDD.out, HD0.out]; exact HR3.out, HB3.out⟩
              case measure => simp [intOf]; omega
      · have HNO := hid hno
        obtain ⟨dl, HDLn⟩ : ∃ dl, Hid (dl = D.length) := ⟨_, rfl⟩
        have hdl : (len : Int) - (a : Int) = (dl : Int) := by have h1 := HDLn.out; have h2 := HDL.out; omega
        go_wp2_with fail
        refine (refread_no _ _ D HD.out HDB.out HNO.out (by have := HDL.out; omega)).mono ?_
        rintro e w2 ⟨rfl, hb2⟩
        have HB2 := hid hb2
        have HB2W : Hid (Below w.heap.size w (w2.alloc (.cells #[.int .i64 0, .int .i64 0, .int .i64 0] 41))) := (below_step HBE.out hb2).alloc (by have := hb2.size; have := HBE.out.size; omega) _
        have hglt : g < w2.heap.size := by have := One.lt HR.out; have := hb2.size; omega
        have HGL := hid hglt
        have HR2 : Hid (Rd (w2.alloc (.cells #[.int .i64 0, .int .i64 0, .int .i64 0] 41)) g D) := One.alloc (One.keep HR.out (hb2.block g (One.lt HR.out))) _
        clear hb2 hcut hglt
        obtain ⟨ad', had, p0, p1, p2⟩ := HC.out _ HB2W.out k _ HHO.out
        obtain rfl : ad = ad' := by injection had
        simp only at p0 p1 p2
        clear had
        by_cases h0 : k0 = 0
        · as_aux_lemma =>
            subst h0
            go_wp2_with fail
            refine (ruint_form _ g D HR2.out HDB.out HNO.out (by have := HDL.out; omega)).mono ?_
            rintro e w3 ⟨rfl, hR3, hc3⟩
            obtain ⟨x0, x1, x2⟩ := x_cells hc3 HGL.out
            have HB3 := hid (HB2W.out.trans (hc3.below HG.out HB2W.out.size))
            have HR3 := hid hR3
            obtain ⟨ad', had, q0, q1, q2⟩ := HC.out w3 HB3.out k _ HHO.out
            obtain rfl : ad = ad' := by injection had
            simp only at q0 q1 q2
            clear had hR3 hc3 p0 p1 p2
            go_wp2_with fail
            refine (rleft _ g D HR3.out).mono ?_
            rw [← HDLn.out]
            rintro e w' ⟨rfl, rfl⟩
            go_wp2_with fail
            go_roundw
            case rel => exact ⟨k + 1, a, by omega, by go_num, by omega, rfl, by rw [← HDD.out]; exact HR3.out, HB3.out⟩
            case measure => simp [intOf]; omega
        by_cases h1 : k0 = 1
        · as_aux_lemma =>
            subst h1
            go_wp2_with fail
            refine (rint_form _ g D HR2.out HDB.out HNO.out (by have := HDL.out; omega)).mono ?_
            rintro e w3 ⟨rfl, hR3, hc3⟩
            obtain ⟨x0, x1, x2⟩ := x_cells hc3 HGL.out
            have HB3 := hid (HB2W.out.trans (hc3.below HG.out HB2W.out.size))
            have HR3 := hid hR3
            obtain ⟨ad', had, q0, q1, q2⟩ := HC.out w3 HB3.out k _ HHO.out
            obtain rfl : ad = ad' := by injection had
            simp only at q0 q1 q2
            clear had hR3 hc3 p0 p1 p2
            go_wp2_with fail
            refine (rleft _ g D HR3.out).mono ?_
            rw [← HDLn.out]
            rintro e w' ⟨rfl, rfl⟩
            go_wp2_with fail
            go_roundw
            case rel => exact ⟨k + 1, a, by omega, by go_num, by omega, rfl, by rw [← HDD.out]; exact HR3.out, HB3.out⟩
            case measure => simp [intOf]; omega
        · as_aux_lemma =>
            go_wp2_with fail
            refine (rtext_form _ g n0 D HR2.out HDB.out HNO.out (by have := HDL.out; omega)).mono ?_
            rintro e w3 ⟨rfl, hR3, hc3⟩
            obtain ⟨x0, x1, x2⟩ := x_cells hc3 HGL.out
            have HB3 := hid (HB2W.out.trans (hc3.below HG.out HB2W.out.size))
            have HR3 := hid hR3
            obtain ⟨ad', had, q0, q1, q2⟩ := HC.out w3 HB3.out k _ HHO.out
            obtain rfl : ad = ad' := by injection had
            simp only at q0 q1 q2
            clear had hR3 hc3 p0 p1 p2
            go_wp2_with fail
            refine (rleft _ g D HR3.out).mono ?_
            rw [← HDLn.out]
            rintro e w' ⟨rfl, rfl⟩
            go_wp2_with fail
            go_roundw
            case rel => exact ⟨k + 1, a, by omega, by go_num, by omega, rfl, by rw [← HDD.out]; exact HR3.out, HB3.out⟩
            case measure => simp [intOf]; omega
    · have hkl : Hid (k = len') := by show _ = _; omega
      go_wp2_with fail
      refine (awake_any _).mono ?_
      rintro e w4 ⟨rfl, hb4⟩
      go_wp2
      go_ret
      exact ⟨rfl, below_step HBE.out hb4⟩
end Go.Proofs.Ytjhgebfabjbbjaa
