import Derived.Test.YtmakcfnmdohedaaDoorM2
import Derived.Deep.RegionHeld3
import Derived.BigRegion
namespace Go.Proofs.YtmakcfnmdohedaaDoor
open Go.RowKit

theorem Own.stored {k : IntKind} {w : World} {base : Nat} {e : TypeId} {g n c : Nat} {xs : List Nat} (h : Own k w base e (.slice (some ⟨g, 0, none⟩) n c) xs) (j b : Nat) :
    Own k (w.setCell ⟨g, j, none⟩ (.int k (b : Int))) base e (.slice (some ⟨g, 0, none⟩) n c) (xs.set j b) := by
  have hn := h.sl.len
  subst hn
  have := (World.ownsRow.stored h j (.int k (b : Int))).1
  unfold Own
  rw [List.length_set, List.map_set]
  exact this
theorem Own.at_ {k : IntKind} {w : World} {base : Nat} {e : TypeId} {g n c : Nat} {xs : List Nat} (h : Own k w base e (.slice (some ⟨g, 0, none⟩) n c) xs) {j b : Nat} (hj : xs[j]? = some b) :
    w.cell? ⟨g, j, none⟩ = some (.int k (b : Int)) ∧ w.frozen? ⟨g, j, none⟩ = false := by
  obtain ⟨ad, ha, hc⟩ := h.sl.cell hj
  injection ha with ha
  subst ha
  rw [add_at] at hc
  have hn := h.sl.len
  subst hn
  exact ⟨hc, World.ownsRow.frozenAt h j⟩
theorem Own.form_ {k : IntKind} {w : World} {base : Nat} {e : TypeId} {v : Value} {xs : List Nat} (h : Own k w base e v xs) (hn : 0 < xs.length) : ∃ g c, v = .slice (some ⟨g, 0, none⟩) xs.length c ∧ base ≤ g := by
  rcases h.2 with ⟨_, h0⟩ | ⟨g, cap, cur, hv, hb, _⟩
  · omega
  · exact ⟨g, cap, hv, hb⟩

theorem four_inj {a b : Nat} (ha : a < 4294967296) (hb : b < 4294967296) (h : four a = four b) : a = b := by
  unfold four at h
  simp at h
  omega
theorem eqB_append {c : List Nat} {a b : Nat} (ha : a < 4294967296) (hb : b < 4294967296) (h : a ≠ b) : eqB (c ++ four a) (c ++ four b) = false := by
  unfold eqB
  simp only [decide_eq_false_iff_not]
  intro e
  exact h (four_inj ha hb (List.append_cancel_left e))
theorem sealed_drop (xs : List Nat) (n : Nat) (h : n = xs.length) : (sealed xs).drop n = four (Crc.sum 0 xs) := by
  unfold sealed; subst h; simp

def flag (ts : List Nat) (k : Nat) : Bool := (ts.take k).any (fun x => x != 0)
theorem flag_step {ts : List Nat} {k t : Nat} (h : ts[k]? = some t) : flag ts (k + 1) = (flag ts k || t != 0) := by
  unfold flag; rw [List.take_add_one, h]; simp
theorem flag_yes {ts : List Nat} {k : Nat} (h : flag ts k = true) : ∃ x ∈ ts.take k, x ≠ 0 := by
  unfold flag at h; simpa using h

set_option maxHeartbeats 1000000 in
theorem turned_any (w : World) (v : Value) (xs : List Nat) (n : Int) (t0 t1 t2 t3 : Nat) (hs : Sl .u8 w v xs) (hb : Crc.Byt xs) (ht : Tab w) (hts : Crc.Byt [t0, t1, t2, t3]) (hn0 : -9223372036854775808 ≤ n) (hn1 : n ≤ 9223372036854775807) :
    Calls Tryd.prog 8 #[v, .int .i64 n, .agg #[.int .u8 t0, .int .u8 t1, .int .u8 t2, .int .u8 t3]] w (Yes w) := by
  obtain ⟨i0, hi, hz0, hz1, hz2⟩ := info_parts Tryd.info5
  have HS := hid hs
  obtain ⟨A, cap, rfl, hlc, hm, _⟩ := hs
  obtain ⟨len, HL⟩ : ∃ len, Hid (len = xs.length) := ⟨_, rfl⟩
  rw [← HL.out] at HS hlc ⊢
  clear hm
  have hbox := (Below.refl w.heap.size w).alloc (Nat.le_refl _) (.cells #[.int .u8 t0, .int .u8 t1, .int .u8 t2, .int .u8 t3] 36)
  by_cases hl : 300 < len
  · go_enter Tryd.func8, Tryd.ntmps8
    go_wp2_with fail
    refine (awake_any _ (ht.keep hbox)).mono ?_
    rintro e w' ⟨rfl, hb'⟩
    go_wp2
    go_ret
    exact ⟨rfl, below_step hbox hb'⟩
  by_cases h0 : n < 0
  · go_enter Tryd.func8, Tryd.ntmps8
    go_wp2_with fail
    refine (awake_any _ (ht.keep hbox)).mono ?_
    rintro e w' ⟨rfl, hb'⟩
    go_wp2
    go_ret
    exact ⟨rfl, below_step hbox hb'⟩
  by_cases h1 : (len : Int) ≤ n
  · go_enter Tryd.func8, Tryd.ntmps8
    go_wp2_with fail
    refine (awake_any _ (ht.keep hbox)).mono ?_
    rintro e w' ⟨rfl, hb'⟩
    go_wp2
    go_ret
    exact ⟨rfl, below_step hbox hb'⟩
  · obtain ⟨a, rfl⟩ : ∃ a : Nat, n = a := ⟨n.toNat, by omega⟩
    have ha : a < len := by omega
    obtain ⟨W, HW⟩ : ∃ W, Hid (W = w.alloc (.cells #[.int .u8 t0, .int .u8 t1, .int .u8 t2, .int .u8 t3] 36)) := ⟨_, rfl⟩
    have HB := hid hbox
    rw [← HW.out] at HB
    have hsz : W.heap.size = w.heap.size + 1 := by rw [HW.out]; simp
    have hcells : ∀ (i t : Nat), [t0, t1, t2, t3][i]? = some t → W.cell? ⟨w.heap.size, i, none⟩ = some (.int .u8 (t : Int)) := by
      intro i t hi
      rw [HW.out, cell_of_row _ _ _ _ _ _ (heap_alloc_new w _)]
      match i with
      | 0 | 1 | 2 | 3 => simp at hi ⊢; omega
      | i + 4 => simp at hi
    have HC := hid hcells
    clear hcells hbox
    have HS1 := hid (HS.out.below HB.out)
    go_enter Tryd.func8, Tryd.ntmps8
    go_wp2_with (first | (at_builtin; rw [← HW.out]; refine wpList_append_sl _ rfl (.tmp 28) (.tmp 29) 22 rfl W.heap.size 5 i0 (.int .u8 0) 1 Tryd.underlying22 hi hz0 hz1 hz2 rfl .u8 _ [] rfl (Own.nil _ _ _ _) _ xs rfl HS1.out (by rw [← HL.out]; unfold maxLen; simp; omega) (by rw [← HL.out]; simp; omega) (Nat.le_refl _) ?_; intro v1 w1 hown1 hgrow1 hb1; rw [List.nil_append] at hown1; obtain ⟨g, c1, rfl, hg⟩ : ∃ g c, v1 = .slice (some ⟨g, 0, none⟩) len c ∧ W.heap.size ≤ g := (by rw [HL.out]; exact hown1.form_ (by rw [← HL.out]; omega))))
    have HO1 := hid hown1
    clear hown1 hgrow1
    go_loopw [8, 9] (fun f i wr => ∃ k : Nat, k ≤ 4 ∧ a + k ≤ len ∧ i = .int .i64 k ∧ f = .bool (flag [t0, t1, t2, t3] k) ∧ Own .u8 wr W.heap.size 5 (.slice (some ⟨g, 0, none⟩) len c1) (Crc.turnedAt xs a [t0, t1, t2, t3] k) ∧ Below W.heap.size W wr) (fun _ i _ => 4 - (intOf i).toNat)
    case atStart => exact ⟨0, by omega, by omega, rfl, rfl, by rw [Crc.turnedAt_zero]; exact HO1.out, hb1⟩
    case round =>
      obtain ⟨k, hk4, hka, rfl, rfl, hown, hbel⟩ := hrel
      by_cases hlt : k < 4 ∧ a + k < len
      · obtain ⟨hlt, hlt2⟩ := hlt
        obtain ⟨x, hx⟩ : ∃ b, xs[a + k]? = some b := ⟨xs[a + k]'(by have := HL.out; omega), List.getElem?_eq_getElem _⟩
        obtain ⟨t, htk⟩ : ∃ b, [t0, t1, t2, t3][k]? = some b := ⟨[t0, t1, t2, t3][k]'(by simp; omega), List.getElem?_eq_getElem _⟩
        obtain ⟨ad, rfl, hc1⟩ := HS1.out.cell hx
        have l1 := blk_lt hc1
        have hc2 := HC.out k t htk
        have l2 := blk_lt hc2
        have hcell := (hbel.cell l1).trans hc1
        have hcell' := (hbel.cell l2).trans hc2
        have hxl := hb x (List.mem_of_getElem? hx)
        have htl := hts t (List.mem_of_getElem? htk)
        obtain ⟨y, hy⟩ : ∃ y, (Crc.turnedAt xs a [t0, t1, t2, t3] k)[a + k]? = some y := ⟨_, List.getElem?_eq_getElem (by rw [Crc.turnedAt_len (by have := HL.out; omega) (by simp; omega)]; have := HL.out; omega)⟩
        obtain ⟨hc3, hf3⟩ := hown.at_ hy
        have HX := hid (Crc.turnedAt_step hx htk)
        have HF := hid (flag_step htk)
        have e1 := u8_xor_nat x t hxl htl
        obtain ⟨q, Hq⟩ : ∃ q, Hid (q = x ^^^ t) := ⟨_, rfl⟩
        rw [← Hq.out] at e1 HX
        have HO := hid hown
        have HBl := hid hbel
        clear hown hbel hx htk hy hc1 hc2
        have hk0 : (0 : Int) ≤ (k : Int) := by omega
        have hk1 : (k : Int) < 4 := by omega
        have hk2 : (0 : Int) ≤ (a : Int) + (k : Int) := by omega
        have hk3 : (a : Int) + (k : Int) < (len : Int) := by omega
        have hne : g ≠ w.heap.size := by omega
        have hne2 : w.heap.size ≠ g := by omega
        have hrel2 : Own .u8 (wr.drew.setCell ⟨g, a + k, none⟩ (.int .u8 (q : Int))) W.heap.size 5 (.slice (some ⟨g, 0, none⟩) len c1) (Crc.turnedAt xs a [t0, t1, t2, t3] (k + 1)) ∧ Below W.heap.size W (wr.drew.setCell ⟨g, a + k, none⟩ (.int .u8 (q : Int))) :=
          ⟨by rw [HX.out]; exact HO.out.drew.stored _ _, HBl.out.drew.setCell (by simpa using hg) _⟩
        have HR := hid hrel2
        clear hrel2
        by_cases hfl : flag [t0, t1, t2, t3] k = true
        · rw [hfl]
          go_wp2
          go_region
          go_wp2
          go_roundw
          case rel => exact ⟨k + 1, by omega, by omega, by go_num, by rw [HF.out, hfl]; rfl, HR.out.1, HR.out.2⟩
          case measure => simp [intOf]; omega
        · have hfl : flag [t0, t1, t2, t3] k = false := by simpa using hfl
          rw [hfl]
          by_cases ht0 : t = 0
          · have HF1 : Hid (flag [t0, t1, t2, t3] (k + 1) = false) := by show _ = _; rw [HF.out, hfl, ht0]; rfl
            have ht1 : ((t : Int) != 0) = false := by simp [ht0]
            clear ht0
            go_wp2
            go_region
            go_wp2
            go_roundw
            case rel => exact ⟨k + 1, by omega, by omega, by go_num, by rw [HF1.out], HR.out.1, HR.out.2⟩
            case measure => simp [intOf]; omega
          · have HF1 : Hid (flag [t0, t1, t2, t3] (k + 1) = true) := by show _ = _; rw [HF.out, hfl]; simp [ht0]
            have ht1 : ((t : Int) != 0) = true := by simp [ht0]
            clear ht0
            go_wp2
            go_region
            go_wp2
            go_roundw
            case rel => exact ⟨k + 1, by omega, by omega, by go_num, by rw [HF1.out], HR.out.1, HR.out.2⟩
            case measure => simp [intOf]; omega
      · have htW := ht.keep HB.out
        have htr := htW.keep hbel
        have hbr := below_step HB.out hbel
        have HO := hid hown
        have HSr := hid (HS1.out.below hbel)
        have HLc : Hid ((Crc.turnedAt xs a [t0, t1, t2, t3] k).length = len) := by show _ = _; rw [Crc.turnedAt_len (by have := HL.out; omega) (by simp; omega), HL.out]
        have hcb : Crc.Byt (Crc.turnedAt xs a [t0, t1, t2, t3] k) := Crc.turnedAt_byt hb hts
        by_cases hfl : flag [t0, t1, t2, t3] k = true
        · have HN := hid (Crc.turned_ne (xs := xs) (a := a) (ts := [t0, t1, t2, t3]) (k := k) (by have := HL.out; omega) (by simp; omega) hk4 hts (flag_yes hfl))
          rw [hfl]
          clear hown hbel htW
          obtain ⟨C, HCe⟩ : ∃ C, Hid (C = Crc.turnedAt xs a [t0, t1, t2, t3] k) := ⟨_, rfl⟩
          rw [← HCe.out] at HO HN HLc hcb
          have q1 := Crc.sum_lt (n := 0) (by omega) hb
          have q2 := Crc.sum_lt (n := 0) (by omega) hcb
          obtain ⟨S, HSe⟩ : ∃ S, Hid (S = Crc.sum 0 xs) := ⟨_, rfl⟩
          obtain ⟨T, HTe⟩ : ∃ S, Hid (S = Crc.sum 0 C) := ⟨_, rfl⟩
          rw [← HSe.out] at q1 HN
          rw [← HTe.out] at q2 HN
          have hne : ((T : Int) != (S : Int)) = true := by
            have := HN.out
            simp; omega
          rcases (show (k < 4 ∧ ¬ a + k < len) ∨ ¬ k < 4 by omega) with ⟨hk, hk5⟩ | hk
          all_goals
            go_wp2_with fail
            refine (sealed_any wr _ xs HSr.out hb htr (by have := HL.out; omega)).mono ?_
            rintro e w2 ⟨v2, rfl, hv2, hb2⟩
            have hb02 := below_step hbr hb2
            have ht2 := htr.keep hb2
            have hv2' := hv2
            obtain ⟨A2, c2, rfl, hc2, _, _, hx2⟩ := hv2'
            obtain ⟨b0, hb0⟩ : ∃ b0, (sealed xs)[0]? = some b0 := ⟨_, List.getElem?_eq_getElem (by rw [sealed_len]; omega)⟩
            obtain ⟨ad2, rfl, hx3⟩ := hx2 0 b0 hb0
            clear hx2 hx3 hb0 b0
            rw [sealed_len, ← HL.out] at hv2 hc2 ⊢
            have HV2 := hid (hv2.drop_ (n := len) (m := 4) hc2)
            rw [sealed_drop xs len HL.out, ← HSe.out] at HV2
            have HC2 := hid (HO.out.sl.below hb2)
            have HS2 := hid (HSr.out.below hb2)
            clear hv2
            go_wp2_with (first | (at_builtin; refine wpList_append_sl _ rfl (.tmp 70) (.tmp 71) 22 rfl w2.heap.size 5 i0 (.int .u8 0) 1 Tryd.underlying22 hi hz0 hz1 hz2 rfl .u8 _ [] rfl (Own.nil _ _ _ _) _ C rfl HC2.out (by rw [HLc.out]; unfold maxLen; simp; omega) (by rw [HLc.out]; simp; omega) (Nat.le_refl _) ?_; intro v3 w3 hown3 hgrow3 hb3; rw [List.nil_append] at hown3) | (at_builtin; refine wpList_append_sl _ rfl (.tmp 73) (.tmp 81) 22 rfl w2.heap.size 5 i0 (.int .u8 0) 1 Tryd.underlying22 hi hz0 hz1 hz2 rfl .u8 _ C rfl hown3 _ (four S) rfl (HV2.out.below hb3) (by rw [HLc.out]; unfold maxLen; simp [four]; omega) (by rw [HLc.out]; simp [four]; omega) hb3.size ?_; intro v4 w4 hown4 hgrow4 hb4))
            have hb24 := hb3.trans hb4
            have hb04 := below_step hb02 hb24
            have ht4 := ht2.keep hb24
            have HC4 := hid (HC2.out.below hb24)
            have HS4 := hid (HS2.out.below hb24)
            have hcs : Crc.Byt (C ++ four S) := by
              intro b h
              rcases List.mem_append.1 h with h | h
              · exact hcb b h
              · exact four_byt S b h
            refine (open_long w4 _ (C ++ four S) len hown4.sl hcs ht4 (by rw [List.length_append, HLc.out]; rfl) (by omega)).mono ?_
            rw [List.take_append_of_le_length (by rw [HLc.out]; omega), List.take_of_length_le (by rw [HLc.out]; omega)]
            rintro e w5 ⟨⟨v5, rfl, _⟩, hb5⟩
            rw [show eqB (sealed C) (C ++ four S) = false by unfold sealed; rw [← HTe.out]; exact eqB_append q2 q1 HN.out]
            have hb05 := below_step hb04 hb5
            have ht5 := ht4.keep hb5
            clear hown3 hown4 hgrow3 hgrow4
            go_wp2_with fail
            refine (sum_any w5 _ C (HC4.out.below hb5) hcb ht5).mono ?_
            rw [← HTe.out]
            rintro e w' ⟨rfl, rfl⟩
            go_wp2_with fail
            refine (sum_any w5 _ xs (HS4.out.below hb5) hb ht5).mono ?_
            rw [← HSe.out]
            rintro e w' ⟨rfl, rfl⟩
            go_wp2_with fail
            refine (awake_any w5 ht5).mono ?_
            rintro e w6 ⟨rfl, hb6⟩
            go_wp2
            go_ret
            exact ⟨rfl, below_step hb05 hb6⟩
        · have hfl : flag [t0, t1, t2, t3] k = false := by simpa using hfl
          rw [hfl]
          by_cases hk : k < 4
          · have hk5 : ¬ a + k < len := by omega
            go_wp2_with fail
            refine (awake_any _ htr).mono ?_
            rintro e w' ⟨rfl, hb'⟩
            go_wp2
            go_ret
            exact ⟨rfl, below_step hbr hb'⟩
          · go_wp2_with fail
            refine (awake_any _ htr).mono ?_
            rintro e w' ⟨rfl, hb'⟩
            go_wp2
            go_ret
            exact ⟨rfl, below_step hbr hb'⟩
end Go.Proofs.YtmakcfnmdohedaaDoor
