import Derived.Test.YtmakcfnmdohedaaDoorT11
import Derived.Deep.CutRange
import Derived.Deep.RegionHeld3
import Derived.Deep.QuietTactic
import Derived.BigQuiet
namespace Go.Proofs.YtmakcfnmdohedaaDoor
open Go.RowKit

theorem xor_i64 (a b : Nat) (ha : a < 4294967296) (hb : b < 4294967296) : bits .xor .i64 (a : Int) (b : Int) = ((a ^^^ b : Nat) : Int) := by
  have h1 : ∀ x : Nat, x < 4294967296 → (BitVec.ofInt 64 (x : Int)).toNat = x := fun x hx => by
    rw [BitVec.ofInt_natCast, BitVec.toNat_ofNat]; exact Nat.mod_eq_of_lt (by omega)
  have h2 := Crc.xor_lt ha hb
  show IntKind.i64.wrap ((BitVec.ofInt 64 (a : Int) ^^^ BitVec.ofInt 64 (b : Int)).toNat : Int) = _
  rw [BitVec.toNat_xor, h1 a ha, h1 b hb, IntKind.wrap_i64]
  omega

set_option maxHeartbeats 1000000 in
theorem linear_any (w : World) (u v x : Value) (xs ys zs : List Nat) (hs : Sl .u8 w u xs) (hb : Crc.Byt xs) (hs' : Sl .u8 w v ys) (hb' : Crc.Byt ys) (hs'' : Sl .u8 w x zs) (hb'' : Crc.Byt zs) (ht : Tab w) :
    Calls Tryd.prog 9 #[u, v, x] w (Yes w) := by
  obtain ⟨i0, hi, hz0, hz1, hz2⟩ := info_parts Tryd.info5
  have HS := hid hs
  have HS' := hid hs'
  have HS'' := hid hs''
  obtain ⟨A, cap, rfl, hlc, hm, _⟩ := hs
  obtain ⟨A', cap', rfl, hlc', hm', _⟩ := hs'
  obtain ⟨A'', cap'', rfl, hlc'', hm'', _⟩ := hs''
  obtain ⟨len, HL⟩ : ∃ len, Hid (len = xs.length) := ⟨_, rfl⟩
  obtain ⟨len', HL'⟩ : ∃ len, Hid (len = ys.length) := ⟨_, rfl⟩
  obtain ⟨len'', HL''⟩ : ∃ len, Hid (len = zs.length) := ⟨_, rfl⟩
  rw [← HL.out] at HS hlc ⊢
  rw [← HL'.out] at HS' hlc' ⊢
  rw [← HL''.out] at HS'' hlc'' ⊢
  clear hm hm' hm''
  by_cases hl : 300 < len
  · go_enter Tryd.func9, Tryd.ntmps9
    go_wp2_with fail
    refine (awake_any w ht).mono ?_
    rintro e w' ⟨rfl, hb'⟩
    go_wp2
    go_ret
    exact ⟨rfl, hb'⟩
  by_cases hl' : 300 < len'
  · go_enter Tryd.func9, Tryd.ntmps9
    go_wp2_with fail
    refine (awake_any w ht).mono ?_
    rintro e w' ⟨rfl, hb'⟩
    go_wp2
    go_ret
    exact ⟨rfl, hb'⟩
  by_cases hl'' : 300 < len''
  · go_enter Tryd.func9, Tryd.ntmps9
    go_wp2_with fail
    refine (awake_any w ht).mono ?_
    rintro e w' ⟨rfl, hb'⟩
    go_wp2
    go_ret
    exact ⟨rfl, hb'⟩
  · obtain ⟨n, Hn⟩ : ∃ n, Hid (n = min (min len len') len'') := ⟨_, rfl⟩
    have hn1 : n ≤ len := by rw [Hn.out]; omega
    have hn2 : n ≤ len' := by rw [Hn.out]; omega
    have hn3 : n ≤ len'' := by rw [Hn.out]; omega
    go_enter Tryd.func9, Tryd.ntmps9
    go_upto_region 3 with (fail)
    go_cut [7] from 24 to 30 (fun s7 wx => s7 = .int .i64 n ∧ w = wx)
    case first =>
      go_wp2
      all_goals (go_meet; exact ⟨by rw [Hn.out]; congr 1; omega, rfl⟩)
    case rest =>
      obtain ⟨rfl, rfl⟩ := hcut
      go_wp2
      go_loopw [8, 9] (fun d i wr => ∃ k : Nat, k ≤ n ∧ i = .int .i64 k ∧ Own .u8 wr w.heap.size 5 d (xors3 (xs.take k) (ys.take k) (zs.take k)) ∧ Below w.heap.size w wr) (fun _ i _ => n - (intOf i).toNat)
      case atStart => exact ⟨0, by omega, rfl, Own.nil _ _ _ _, Below.refl _ _⟩
      case round =>
        obtain ⟨k, hk, rfl, hown, hbel⟩ := hrel
        by_cases hlt : k < n
        · obtain ⟨x, hx⟩ : ∃ b, xs[k]? = some b := ⟨xs[k]'(by have := HL.out; omega), List.getElem?_eq_getElem _⟩
          obtain ⟨y, hy⟩ : ∃ b, ys[k]? = some b := ⟨ys[k]'(by have := HL'.out; omega), List.getElem?_eq_getElem _⟩
          obtain ⟨z, hz⟩ : ∃ b, zs[k]? = some b := ⟨zs[k]'(by have := HL''.out; omega), List.getElem?_eq_getElem _⟩
          obtain ⟨ad, rfl, hc1⟩ := HS.out.cell hx
          obtain ⟨ad', rfl, hc2⟩ := HS'.out.cell hy
          obtain ⟨ad'', rfl, hc3⟩ := HS''.out.cell hz
          have l1 := blk_lt hc1
          have l2 := blk_lt hc2
          have l3 := blk_lt hc3
          have hcell := (hbel.cell l1).trans hc1
          have hcell' := (hbel.cell l2).trans hc2
          have hcell'' := (hbel.cell l3).trans hc3
          have hk0 : (0 : Int) ≤ (k : Int) := by omega
          have hk1 : (k : Int) < (len : Int) := by omega
          have hk2 : (k : Int) < (len' : Int) := by omega
          have hk3 : (k : Int) < (len'' : Int) := by omega
          have HLX : Hid ((xors3 (xs.take k) (ys.take k) (zs.take k)).length = k) := xors3_len (by rw [← HL.out]; omega) (by rw [← HL'.out]; omega) (by rw [← HL''.out]; omega)
          clear hc1 hc2 hc3
          have HX := hid (xors3_snoc hx hy hz)
          have bx := hb x (List.mem_of_getElem? hx)
          have bY := hb' y (List.mem_of_getElem? hy)
          have bz := hb'' z (List.mem_of_getElem? hz)
          clear hx hy hz
          have bxy := xor_byte bx bY
          have e1 := u8_xor_nat x y bx bY
          have e2 := u8_xor_nat (x ^^^ y) z bxy bz
          obtain ⟨p, Hp⟩ : ∃ p, Hid (p = x ^^^ y) := ⟨_, rfl⟩
          rw [← Hp.out] at e1 e2 HX
          obtain ⟨q, Hq⟩ : ∃ q, Hid (q = p ^^^ z) := ⟨_, rfl⟩
          rw [← Hq.out] at e2 HX
          have HO := hid hown
          have HB := hid hbel
          clear hown hbel
          go_wp2
          go_region_held3 (fun w' => w'.cell? (ad.add k) = some (.int .u8 (x : Int)) ∧ w'.cell? (ad'.add k) = some (.int .u8 (y : Int)) ∧ w'.cell? (ad''.add k) = some (.int .u8 (z : Int)))
            (first | go_keep | (go_split_ands; refine ⟨(hb1.cell l1).trans ?_, (hb1.cell l2).trans ?_, (hb1.cell l3).trans ?_⟩ <;> assumption))
            ((refine step_append_sl _ (by rfl) _ _ 22 (by rfl) w.heap.size 5 i0 (.int .u8 0) 1 Tryd.underlying22 hi hz0 hz1 hz2 (by rfl) .u8 _ (xors3 (xs.take k) (ys.take k) (zs.take k)) (by rfl) ((HO.out.alloc _).drew) _ [q] (by rfl) one_row (by rw [HLX.out]; unfold maxLen; simp; omega) (by rw [HLX.out]; simp; omega) (by have := HB.out.size; simp; omega) ?_; intro v1 w1 hown1 hgrow hb1))
          go_wp2
          go_roundw
          case rel => exact ⟨k + 1, by omega, by go_num, by rw [HX.out]; exact hown1, ((HB.out.drew).alloc (by have := HB.out.size; simp; omega) _).trans hb1⟩
          case measure => simp [intOf]; omega
        · obtain rfl : k = n := by omega
          have htr := ht.keep hbel
          have bD := xors3_byt hb hb' hb'' k
          have b1 := take_byt hb k
          have b2 := take_byt hb' k
          have b3 := take_byt hb'' k
          have q1 := Crc.sum_lt (n := 0) (by omega) b1
          have q2 := Crc.sum_lt (n := 0) (by omega) b2
          have q3 := Crc.sum_lt (n := 0) (by omega) b3
          have HD := hid hown.sl.drew
          have H1 := hid ((HS.out.below hbel).take_ (n := k) (by rw [← HL.out]; omega)).drew
          have H2 := hid ((HS'.out.below hbel).take_ (n := k) (by rw [← HL'.out]; omega)).drew
          have H3 := hid ((HS''.out.below hbel).take_ (n := k) (by rw [← HL''.out]; omega)).drew
          have HEQ : Hid (Crc.sum 0 (xors3 (xs.take k) (ys.take k) (zs.take k)) = Crc.sum 0 (xs.take k) ^^^ Crc.sum 0 (ys.take k) ^^^ Crc.sum 0 (zs.take k)) :=
            Crc.sum_xor3 0 _ _ _ (by have h1 := HL.out; have h2 := HL'.out; simp; omega) (by have h1 := HL'.out; have h2 := HL''.out; simp; omega)
          clear hown
          obtain ⟨D, HDe⟩ : ∃ D, Hid (D = xors3 (xs.take k) (ys.take k) (zs.take k)) := ⟨_, rfl⟩
          rw [← HDe.out] at HD bD HEQ
          obtain ⟨X, HXe⟩ : ∃ D, Hid (D = xs.take k) := ⟨_, rfl⟩
          rw [← HXe.out] at H1 b1 HEQ q1
          obtain ⟨Y, HYe⟩ : ∃ D, Hid (D = ys.take k) := ⟨_, rfl⟩
          rw [← HYe.out] at H2 b2 HEQ q2
          obtain ⟨Z, HZe⟩ : ∃ D, Hid (D = zs.take k) := ⟨_, rfl⟩
          rw [← HZe.out] at H3 b3 HEQ q3
          obtain ⟨sd, Hsd⟩ : ∃ s, Hid (s = Crc.sum 0 D) := ⟨_, rfl⟩
          obtain ⟨s1, Hs1⟩ : ∃ s, Hid (s = Crc.sum 0 X) := ⟨_, rfl⟩
          obtain ⟨s2, Hs2⟩ : ∃ s, Hid (s = Crc.sum 0 Y) := ⟨_, rfl⟩
          obtain ⟨s3, Hs3⟩ : ∃ s, Hid (s = Crc.sum 0 Z) := ⟨_, rfl⟩
          rw [← Hsd.out, ← Hs1.out, ← Hs2.out, ← Hs3.out] at HEQ
          rw [← Hs1.out] at q1
          rw [← Hs2.out] at q2
          rw [← Hs3.out] at q3
          have hx12 := Crc.xor_lt q1 q2
          have e1 := xor_i64 s1 s2 q1 q2
          have e2 := xor_i64 (s1 ^^^ s2) s3 hx12 q3
          rw [← HEQ.out] at e2
          obtain ⟨t, Ht⟩ : ∃ t, Hid (t = s1 ^^^ s2) := ⟨_, rfl⟩
          rw [← Ht.out] at e1 e2
          have hk0 : (0 : Int) ≤ (k : Int) := by omega
          have hk1 : (k : Int) ≤ (cap : Int) := by omega
          have hk2 : (k : Int) ≤ (cap' : Int) := by omega
          have hk3 : (k : Int) ≤ (cap'' : Int) := by omega
          have htd : Tab wr.drew := htr
          go_wp2
          go_region_held3 (fun _ => True) (trivial)
            (first
              | (go_at_call 11; ((with_reducible refine (sum_any _ _ X H1.out b1 htd).mono ?_); rw [← Hs1.out]; rintro e w' ⟨rfl, rfl⟩))
              | (go_at_call 11; ((with_reducible refine (sum_any _ _ Y H2.out b2 htd).mono ?_); rw [← Hs2.out]; rintro e w' ⟨rfl, rfl⟩))
              | (go_at_call 11; ((with_reducible refine (sum_any _ _ Z H3.out b3 htd).mono ?_); rw [← Hs3.out]; rintro e w' ⟨rfl, rfl⟩))
              | (go_at_call 11; ((with_reducible refine (sum_any _ _ D HD.out bD htd).mono ?_); rw [← Hsd.out]; rintro e w' ⟨rfl, rfl⟩))
              | (go_at_call 10; ((with_reducible refine (awake_any _ htd).mono ?_); rintro e w' ⟨rfl, hbw⟩)))
          go_wp2
          go_ret
          exact ⟨rfl, below_step hbel.drew hbw⟩
end Go.Proofs.YtmakcfnmdohedaaDoor
