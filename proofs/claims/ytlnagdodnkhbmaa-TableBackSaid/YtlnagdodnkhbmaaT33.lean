/- TableWhole. -/
import Derived.Test.YtlnagdodnkhbmaaT26
import Derived.Test.YtlnagdodnkhbmaaT32
namespace Go.Proofs.Ytlnagdodnkhbmaa
open Go.RowKit
set_option maxRecDepth 100000
/-- A box of two numbers. -/
def Box2 (w : World) (b : Nat) (x y : Int) : Prop := w.cell? ⟨b, 0, none⟩ = some (.int .i64 x) ∧ w.cell? ⟨b, 1, none⟩ = some (.int .i64 y)
theorem Box2.new (w : World) (x y : Int) (e : TypeId) : Box2 (w.alloc (.cells #[.int .i64 x, .int .i64 y] e)) w.heap.size x y := ⟨cell_of_row _ _ 0 _ _ _ (heap_alloc_new w _), cell_of_row _ _ 1 _ _ _ (heap_alloc_new w _)⟩
theorem Box2.below {w w' : World} {b : Nat} {x y : Int} (h : Box2 w b x y) (hb : Below w.heap.size w w') : Box2 w' b x y := ⟨below_keep hb _ _ h.1, below_keep hb _ _ h.2⟩
theorem whole_e1 (w : World) (n : Int) (v : Value) (x y : Int) (h : rightB n = false) : Calls Try.prog 4 #[.int .i64 n, v, .agg #[.int .i64 x, .int .i64 y]] w (Yes w) := by
  obtain ⟨wa, HWA⟩ : ∃ wa, Hid (wa = w.alloc (.cells #[.int .i64 x, .int .i64 y] 40)) := ⟨_, rfl⟩
  have HBA : Hid (Below w.heap.size w wa) := by rw [HWA.out]; exact (Below.refl _ _).alloc (Nat.le_refl _) _
  have HBX : Hid (Box2 wa w.heap.size x y) := by rw [HWA.out]; exact Box2.new w x y _
  obtain ⟨b0, b1⟩ := HBX.out
  go_enter Try.func4, Try.ntmps4
  go_wp2_with fail
  rw [← HWA.out]
  refine (right_any wa n).mono ?_
  rw [h]
  rintro e w1 ⟨rfl, rfl⟩
  go_wp2_with fail
  refine (awake_any _).mono ?_
  rintro e w9 ⟨rfl, hb9⟩
  go_wp2
  go_ret
  exact ⟨rfl, below_step HBA.out hb9⟩
theorem whole_e2 (w : World) (n : Int) (v : Value) (x y : Int) (os : List Op7) (hv : Elems 6 cOp w v os) (h : rightB n = true) (hf : few7 os = false) : Calls Try.prog 4 #[.int .i64 n, v, .agg #[.int .i64 x, .int .i64 y]] w (Yes w) := by
  obtain ⟨wa, HWA⟩ : ∃ wa, Hid (wa = w.alloc (.cells #[.int .i64 x, .int .i64 y] 40)) := ⟨_, rfl⟩
  have HBA : Hid (Below w.heap.size w wa) := by rw [HWA.out]; exact (Below.refl _ _).alloc (Nat.le_refl _) _
  have HBX : Hid (Box2 wa w.heap.size x y) := by rw [HWA.out]; exact Box2.new w x y _
  obtain ⟨b0, b1⟩ := HBX.out
  go_enter Try.func4, Try.ntmps4
  go_wp2_with fail
  rw [← HWA.out]
  refine (right_any wa n).mono ?_
  rw [h]
  rintro e w1 ⟨rfl, rfl⟩
  go_wp2_with fail
  refine (few7_any _ v os (hv.below HBA.out)).mono ?_
  rw [hf]
  rintro e w2 ⟨rfl, rfl⟩
  go_wp2_with fail
  refine (awake_any _).mono ?_
  rintro e w9 ⟨rfl, hb9⟩
  go_wp2
  go_ret
  exact ⟨rfl, below_step HBA.out hb9⟩
theorem whole_e3 (w : World) (n : Int) (v : Value) (x y : Int) (os : List Op7) (hv : Elems 6 cOp w v os) (h : rightB n = true) (hf : few7 os = true) (hx : x < 0) : Calls Try.prog 4 #[.int .i64 n, v, .agg #[.int .i64 x, .int .i64 y]] w (Yes w) := by
  obtain ⟨wa, HWA⟩ : ∃ wa, Hid (wa = w.alloc (.cells #[.int .i64 x, .int .i64 y] 40)) := ⟨_, rfl⟩
  have HBA : Hid (Below w.heap.size w wa) := by rw [HWA.out]; exact (Below.refl _ _).alloc (Nat.le_refl _) _
  have HBX : Hid (Box2 wa w.heap.size x y) := by rw [HWA.out]; exact Box2.new w x y _
  obtain ⟨b0, b1⟩ := HBX.out
  go_enter Try.func4, Try.ntmps4
  go_wp2_with fail
  rw [← HWA.out]
  refine (right_any wa n).mono ?_
  rw [h]
  rintro e w1 ⟨rfl, rfl⟩
  go_wp2_with fail
  refine (few7_any _ v os (hv.below HBA.out)).mono ?_
  rw [hf]
  rintro e w2 ⟨rfl, rfl⟩
  go_wp2_with fail
  refine (awake_any _).mono ?_
  rintro e w9 ⟨rfl, hb9⟩
  go_wp2
  go_ret
  exact ⟨rfl, below_step HBA.out hb9⟩
theorem whole_e4 (w : World) (n : Int) (v : Value) (x y : Int) (os : List Op7) (hv : Elems 6 cOp w v os) (h : rightB n = true) (hf : few7 os = true) (hx0 : ¬ x < 0) (hx : 3 < x) : Calls Try.prog 4 #[.int .i64 n, v, .agg #[.int .i64 x, .int .i64 y]] w (Yes w) := by
  obtain ⟨wa, HWA⟩ : ∃ wa, Hid (wa = w.alloc (.cells #[.int .i64 x, .int .i64 y] 40)) := ⟨_, rfl⟩
  have HBA : Hid (Below w.heap.size w wa) := by rw [HWA.out]; exact (Below.refl _ _).alloc (Nat.le_refl _) _
  have HBX : Hid (Box2 wa w.heap.size x y) := by rw [HWA.out]; exact Box2.new w x y _
  obtain ⟨b0, b1⟩ := HBX.out
  go_enter Try.func4, Try.ntmps4
  go_wp2_with fail
  rw [← HWA.out]
  refine (right_any wa n).mono ?_
  rw [h]
  rintro e w1 ⟨rfl, rfl⟩
  go_wp2_with fail
  refine (few7_any _ v os (hv.below HBA.out)).mono ?_
  rw [hf]
  rintro e w2 ⟨rfl, rfl⟩
  go_wp2_with fail
  refine (awake_any _).mono ?_
  rintro e w9 ⟨rfl, hb9⟩
  go_wp2
  go_ret
  exact ⟨rfl, below_step HBA.out hb9⟩
theorem telem : Try.prog.elem 41 = 9 := by kernel_rfl
theorem tsize (W : World) : (sizeOf 9).run Try.prog W = .ok 1 W := by kernel_rfl
theorem tcut_to (W : World) (A : Option Addr) (len cap h : Nat) (hh : h ≤ cap) : (Instr.slice 41 (.slice A len cap) none (some (.int .i64 (h : Int))) none).run Try.prog W = .ok (sliced A 0 h cap 1) W := by
  have e := run_slice_h (P := Try.prog) (w := W) 41 A len cap (by rw [telem]; exact Try.underlying41) .i64 (h : Int) (by omega) (by omega)
  rw [telem, tsize] at e
  simpa [Result.andThen] using e
theorem tcut_from (W : World) (A : Option Addr) (len cap a : Nat) (ha : a ≤ len) : (Instr.slice 41 (.slice A len cap) (some (.int .i64 (a : Int))) none none).run Try.prog W = .ok (sliced A a len cap 1) W := by
  have e := run_slice_l (P := Try.prog) (w := W) 41 A len cap (by rw [telem]; exact Try.underlying41) .i64 (a : Int) (by omega) (by omega)
  rw [telem, tsize] at e
  simpa [Result.andThen] using e
theorem findL_all {l : List KR} (h : RowsOk l) (hl : l.length ≤ 1024) (c : Nat) (lo hi : Int) : findL c lo hi 2000 l = (tellK c lo hi l).map Prod.fst := by
  have := tellK_len h c lo hi
  unfold findL
  rw [List.take_of_length_le (by rw [List.length_map]; omega)]
theorem keys_byt {l : List KR} (h : RowsOk l) (c : Nat) (lo hi : Int) : ∀ x ∈ (tellK c lo hi l).map Prod.fst, Byt x := fun x hx => by
  obtain ⟨q, hq, rfl⟩ := List.mem_map.1 hx
  exact h.byt q ((tellK_mem h).1 hq).1
theorem tfind_all {w : World} {T : Nat} {p : Nat → Nat} {Q : Bl} {most o : Nat} {l : List KR} (h : Tab w T p Q most o l) (c : Nat) (hc : c < 4) (lo hi : Int) (hl : I64 lo) (hh : I64 hi) (hle : lo ≤ hi) :
    Calls Try.prog 15 #[.pointer (some ⟨T, 0, none⟩), .int .i64 (c : Int), .int .i64 lo, .int .i64 hi, .int .i64 2000] w (FindEnd w ((tellK c lo hi l).map Prod.fst)) := by
  rw [← findL_all h.rows h.le]
  exact tfind h c hc lo hi 2000 hl hh hle (by omega)
theorem Lies.at_ {w : World} {g : Nat} {r : Ro} (h : Lies w g r) {c : Nat} (hc : c < 4) : w.cell? ⟨g, c, none⟩ = some (.int .i64 (r.at c)) := h.cell (r.get_at hc)
/-- What is told of all values, of those up to one, of that one. -/
structure WholeL (c : Nat) (y : Int) (l : List KR) (N A O : List (List Nat)) : Prop where
  n : N = (tellK c (-9223372036854775808) 9223372036854775807 l).map Prod.fst
  a : A = (tellK c (-9223372036854775808) y l).map Prod.fst
  o : O = (tellK c y y l).map Prod.fst
section
variable {l : List KR} {c : Nat} {y : Int} {N A O : List (List Nat)}
theorem WholeL.top (h : WholeL c y l N A O) (hy : y = 9223372036854775807) : A = N := by rw [h.a, h.n, hy]
theorem WholeL.parts (h : WholeL c y l N A O) (hl : RowsOk l) (hc : c < 4) (hy : I64 y) : N = A ++ (tellK c (y + 1) 9223372036854775807 l).map Prod.fst := by
  rw [h.n, h.a]
  exact tellK_part hl hc (by have := hy.1; omega) (by have := hy.2; omega)
theorem WholeL.own (h : WholeL c y l N A O) (hl : RowsOk l) (hc : c < 4) (hy : I64 y) : A = (tellK c (-9223372036854775808) (y - 1) l).map Prod.fst ++ O := by
  rw [h.a, h.o]
  have := tellK_part hl hc (lo := -9223372036854775808) (m := y - 1) (hi := y) (by have := hy.1; omega) (by omega)
  rwa [show y - 1 + 1 = y by omega] at this
end
set_option maxHeartbeats 4000000 in
theorem whole_ok (w : World) (most : Nat) (h1 : 1 ≤ most) (h2 : most ≤ 1024) (v : Value) (os : List Op7) (hv : Elems 6 cOp w v os) (hos : OpsOk os) (c : Nat) (hc4 : c < 4) (y : Int) (hy : I64 y) (hf : few7 os = true) :
    Calls Try.prog 4 #[.int .i64 (most : Int), v, .agg #[.int .i64 (c : Int), .int .i64 y]] w (Yes w) := by
  obtain ⟨wa, HWA⟩ : ∃ wa, Hid (wa = w.alloc (.cells #[.int .i64 (c : Int), .int .i64 y] 40)) := ⟨_, rfl⟩
  have HBA : Hid (Below w.heap.size w wa) := by rw [HWA.out]; exact (Below.refl _ _).alloc (Nat.le_refl _) _
  have HBX : Hid (Box2 wa w.heap.size (c : Int) y) := by rw [HWA.out]; exact Box2.new w _ _ _
  have HV := hid (hv.below HBA.out)
  have HR : Hid (rightB (most : Int) = true) := decide_eq_true (by omega)
  have HOS := hid hos
  have HY := hid hy
  have hci : ¬ (3 : Int) < (c : Int) := by omega
  have hci0 : ¬ (c : Int) < 0 := by omega
  have hLO : Hid (I64 (-9223372036854775808)) := ⟨by omega, by omega⟩
  have hHI : Hid (I64 9223372036854775807) := ⟨by omega, by omega⟩
  clear hv hos hy
  go_enter Try.func4, Try.ntmps4
  go_wp2_with fail
  rw [← HWA.out]
  refine (right_any wa _).mono ?_
  rw [HR.out]
  rintro e w1 ⟨rfl, rfl⟩
  obtain ⟨b0, b1⟩ := HBX.out
  go_wp2_with fail
  refine (few7_any _ v os HV.out).mono ?_
  rw [hf]
  rintro e w2 ⟨rfl, rfl⟩
  go_wp2_with fail
  refine (made_any _ most h1 h2 v os HV.out HOS.out).mono ?_
  rintro e w3 ⟨p, Q, G, rp, rfl, hst⟩
  have HB3 := hid hst.since
  have HT := hid hst.t
  obtain ⟨l, HL⟩ : ∃ l, Hid (l = runK most [] os) := ⟨_, rfl⟩
  rw [← HL.out] at HT
  have HROWS := hid HT.out.rows
  have HLE := hid HT.out.le
  obtain ⟨T, HTT⟩ : ∃ T, Hid (T = w1.heap.size) := ⟨_, rfl⟩
  rw [← HTT.out] at HT ⊢
  obtain ⟨N, HN⟩ : ∃ N, Hid (N = (tellK c (-9223372036854775808) 9223372036854775807 l).map Prod.fst) := ⟨_, rfl⟩
  obtain ⟨A, HA⟩ : ∃ N, Hid (N = (tellK c (-9223372036854775808) y l).map Prod.fst) := ⟨_, rfl⟩
  obtain ⟨O, HO⟩ : ∃ N, Hid (N = (tellK c y y l).map Prod.fst) := ⟨_, rfl⟩
  have HW : Hid (WholeL c y l N A O) := ⟨HN.out, HA.out, HO.out⟩
  obtain ⟨n, HNN⟩ : ∃ n, Hid (n = N.length) := ⟨_, rfl⟩
  have HNL : Hid (n = l.length) := by show _ = _; rw [HNN.out, HN.out, List.length_map, tellK_all HROWS.out hc4]
  have hn : n ≤ 1024 := by rw [HNL.out]; exact HLE.out
  clear hst b0 b1
  obtain ⟨b0, b1⟩ := HBX.out.below HB3.out
  go_wp2_with fail
  refine (tfind_all HT.out c hc4 _ _ hLO.out hHI.out (by omega)).mono ?_
  rw [← HN.out]
  rintro e w4 ⟨v1, rfl, ho1, hb4⟩
  have HB4 := hid (below_step HB3.out hb4)
  have HT4 := hid (HT.out.below hb4)
  have HO1 := hid ho1.rows
  clear hb4 b0 b1 ho1
  obtain ⟨A1, cap1, hv1⟩ := HO1.out.slice
  subst hv1
  rw [← HNN.out] at HO1 ⊢
  have HLN : Hid (Calls Try.prog 16 #[.pointer (some ⟨T, 0, none⟩)] w4 fun e w' => e = .returned (.int .i64 (n : Int)) ∧ w' = w4) := by
    rw [HNL.out]; exact tlen HT4.out
  go_wp2_with fail
  refine HLN.out.mono ?_
  rintro e w5 ⟨rfl, rfl⟩
  go_wp2
  go_loopw [13] (fun i w' => ∃ j : Nat, j ≤ n ∧ i = .int .i64 j ∧ Below w5.heap.size w5 w') (fun i _ => n - (intOf i).toNat)
  case atStart => exact ⟨0, by omega, rfl, Below.refl _ _⟩
  case round =>
    obtain ⟨j, hj, rfl, hbr⟩ := hrel
    have HBR := hid hbr
    clear hbr
    by_cases hlt : j < n
    · have hlti : (j : Int) < n := by omega
      obtain ⟨q, hq⟩ : ∃ q, (tellK c (-9223372036854775808) 9223372036854775807 l)[j]? = some q := ⟨_, List.getElem?_eq_getElem (by have := HNN.out; have := congrArg List.length HN.out; rw [List.length_map] at this; omega)⟩
      have hx : N[j]? = some q.1 := by rw [HN.out, List.getElem?_map, hq]; rfl
      obtain ⟨ad, rfl, h0⟩ := (HO1.out.below HBR.out).cell cT_len hx (j := 0) (u := .string (str q.1)) rfl
      rw [Nat.mul_one, Nat.add_zero] at h0
      have hql := ((tellK_mem HROWS.out).1 (List.mem_of_getElem? hq)).1
      have HQB := hid (HROWS.out.byt q hql)
      have HQK := hid (HROWS.out.key q hql)
      have HG : Hid ((q.1, q.2) ∈ l) := hql
      obtain ⟨X, HX⟩ : ∃ X, Hid (X = q.2.at c) := ⟨_, rfl⟩
      obtain ⟨r, HRR⟩ : ∃ r, Hid (r = q.2) := ⟨_, rfl⟩
      rw [← HRR.out] at HX HG
      have HQ := hid hq
      clear hql hq hx
      by_cases hj0 : j = 0
      · have hji : ¬ (0 : Int) < (j : Int) := by omega
        have HJ0 := hid hj0
        clear hj0
        go_wp2_with fail
        refine (tget_in (HT4.out.below HBR.out) q.1 r HQK.out HQB.out HG.out).mono ?_
        rintro e w7 ⟨rfl, hb7⟩
        dsimp only [rowv, rowc]
        have HB7 := hid (below_step (below_step HBR.out hb7) ((Below.refl _ _).alloc (Nat.le_refl _) (.cells #[.int .i64 r.a, .int .i64 r.b, .int .i64 r.c, .int .i64 r.d] 33)))
        clear hb7 h0
        go_wp2
        go_roundw
        case rel => exact ⟨j + 1, by omega, by go_num, HB7.out⟩
        case measure => simp [intOf]; omega
      · obtain ⟨i, HI⟩ : ∃ i, Hid (j = i + 1) := ⟨j - 1, (by show _ = _; omega)⟩
        obtain ⟨q', hq'⟩ : ∃ q, (tellK c (-9223372036854775808) 9223372036854775807 l)[i]? = some q := ⟨_, List.getElem?_eq_getElem (by have := HI.out; have := HNN.out; have := congrArg List.length HN.out; rw [List.length_map] at this; omega)⟩
        have hx' : N[i]? = some q'.1 := by rw [HN.out, List.getElem?_map, hq']; rfl
        have h0' : ∀ W, Below w5.heap.size w5 W → W.cell? (ad.add i) = some (.string (str q'.1)) := fun W hb => by
          obtain ⟨ad', he, h0'⟩ := (HO1.out.below hb).cell cT_len hx' (j := 0) (u := .string (str q'.1)) rfl
          rw [Nat.mul_one, Nat.add_zero] at h0'
          injection he with he
          rw [he]; exact h0'
        have hql' := ((tellK_mem HROWS.out).1 (List.mem_of_getElem? hq')).1
        have HQB' := hid (HROWS.out.byt q' hql')
        have HQK' := hid (HROWS.out.key q' hql')
        have HG' : Hid ((q'.1, q'.2) ∈ l) := hql'
        have hnx := tellK_next HROWS.out hc4 (hi := 9223372036854775807) (lo := -9223372036854775808) hq' (by rw [← HI.out]; exact HQ.out)
        obtain ⟨Y, HYY⟩ : ∃ X, Hid (X = q'.2.at c) := ⟨_, rfl⟩
        obtain ⟨r', HRR'⟩ : ∃ r, Hid (r = q'.2) := ⟨_, rfl⟩
        rw [← HRR.out, ← HX.out, ← HYY.out] at hnx
        rw [← HRR'.out] at HYY HG'
        have H0' := hid h0'
        have hji : (0 : Int) < (j : Int) := by omega
        clear hj0
        have hwr : IntKind.i64.wrap ((j : Int) - 1) = (i : Int) := by have := HI.out; rw [show (j : Int) - 1 = (i : Int) by omega]; exact wrap_ok (by omega) (by omega)
        have hil : (i : Int) < (n : Int) := by have := HI.out; omega
        have hi0 : (0 : Int) ≤ (i : Int) := by omega
        have HNX := hid hnx
        clear hql' hq' hx' h0' hnx
        have hc4i : (c : Int) < 4 := by omega
        have hc40 : (0 : Int) ≤ (c : Int) := by omega
        go_wp2_with fail
        refine (tget_in (HT4.out.below HBR.out) q.1 r HQK.out HQB.out HG.out).mono ?_
        rintro e w7 ⟨rfl, hb7⟩
        dsimp only [rowv, rowc]
        have hba7 : Below w7.heap.size w7 (w7.alloc (.cells #[.int .i64 r.a, .int .i64 r.b, .int .i64 r.c, .int .i64 r.d] 33)) := (Below.refl _ _).alloc (Nat.le_refl _) _
        have HB7 := hid (below_step (below_step HBR.out hb7) hba7)
        have HL7 := hid (Lies.new w7 r)
        have h00 := H0'.out _ HB7.out
        clear hb7 hba7 h0
        go_wp2_with fail
        refine (tget_in (HT4.out.below HB7.out) q'.1 r' HQK'.out HQB'.out HG'.out).mono ?_
        rintro e w8 ⟨rfl, hb8⟩
        dsimp only [rowv, rowc]
        have hba8 : Below w8.heap.size w8 (w8.alloc (.cells #[.int .i64 r'.a, .int .i64 r'.b, .int .i64 r'.c, .int .i64 r'.d] 33)) := (Below.refl _ _).alloc (Nat.le_refl _) _
        have HB8 := hid (below_step (below_step HB7.out hb8) hba8)
        have cx := (HL7.out.below (below_step hb8 hba8)).at_ hc4
        have cy := (Lies.new w8 r').at_ hc4
        rw [← HX.out] at cx
        rw [← HYY.out] at cy
        obtain ⟨b0, b1⟩ := HBX.out.below (below_step HB4.out HB8.out)
        have t0 := H0'.out _ HB8.out
        obtain ⟨ad2, he2, t1⟩ := (HO1.out.below HB8.out).cell cT_len (i := j) (a := q.1) (by rw [HN.out, List.getElem?_map, HQ.out]; rfl) (j := 0) (u := .string (str q.1)) rfl
        rw [Nat.mul_one, Nat.add_zero] at t1
        injection he2 with he2
        subst he2
        obtain ⟨wz, HWZ⟩ : ∃ wz, Hid (wz = w8.alloc (.cells #[.int .i64 r'.a, .int .i64 r'.b, .int .i64 r'.c, .int .i64 r'.d] 33)) := ⟨_, rfl⟩
        simp only [rowc] at cx cy b0 b1 t0 t1 HB8
        rw [← HWZ.out] at cx cy b0 b1 t0 t1 HB8
        clear hb8 hba8 h00
        have hd1 : decide (X < Y) = false := decide_eq_false (by rcases HNX.out with h | ⟨h, _⟩ <;> omega)
        rcases HNX.out with h5 | ⟨h5, h6⟩
        · have hd2 : decide (Y = X) = false := decide_eq_false (by omega)
          have hne : ¬ Y = X := by omega
          go_wp2
          rw [← HWZ.out]
          go_quiet (fail)
          go_wp2
          go_roundw
          case rel => exact ⟨j + 1, by omega, by go_num, below_drewN' HB8.out _⟩
          case measure => simp [intOf]; omega
        · have HEX := hid h5
          obtain rfl : Y = X := h5
          have e3 : Op.bytesLess (str q'.1).toList (str q.1).toList = true := by rw [less_str HQB'.out HQB.out, decide_eq_true h6]
          go_wp2
          rw [← HWZ.out]
          go_quiet (fail)
          go_wp2
          go_roundw
          case rel => exact ⟨j + 1, by omega, by go_num, below_drewN' HB8.out _⟩
          case measure => simp [intOf]; omega
    · obtain rfl : j = n := by omega
      have HT5 := hid (HT4.out.below HBR.out)
      obtain ⟨b0, b1⟩ := HBX.out.below (below_step HB4.out HBR.out)
      go_wp2_with fail
      refine (tfind_all HT5.out c hc4 _ _ hLO.out HY.out HY.out.1).mono ?_
      rw [← HA.out]
      rintro e w6 ⟨v2, rfl, ho2, hb6⟩
      have HB6 := hid (below_step HBR.out hb6)
      have HT6 := hid (HT5.out.below hb6)
      have HO2 := hid ho2.rows
      clear hb6 b0 b1 ho2
      obtain ⟨b0, b1⟩ := HBX.out.below (below_step HB4.out HB6.out)
      obtain ⟨A2, cap2, hv2⟩ := HO2.out.slice
      subst hv2
      obtain ⟨na, HNA⟩ : ∃ n, Hid (n = A.length) := ⟨_, rfl⟩
      rw [← HNA.out] at HO2 ⊢
      go_wp2_with fail
      refine (tfind_all HT6.out c hc4 y y HY.out HY.out (Int.le_refl _)).mono ?_
      rw [← HO.out]
      rintro e w7 ⟨v3, rfl, ho3, hb7⟩
      have HB7 := hid (below_step HB6.out hb7)
      have HT7 := hid (HT6.out.below hb7)
      have HO2' := hid (HO2.out.below hb7)
      have HO3 := hid ho3.rows
      clear hb7 b0 b1 ho3
      obtain ⟨b0, b1⟩ := HBX.out.below (below_step HB4.out HB7.out)
      obtain ⟨A3, cap3, hv3⟩ := HO3.out.slice
      subst hv3
      obtain ⟨no, HNO⟩ : ∃ n, Hid (n = O.length) := ⟨_, rfl⟩
      rw [← HNO.out] at HO3 ⊢
      have HAN : Hid (∃ B, N = A ++ B) := by
        by_cases hyt : y = 9223372036854775807
        · exact ⟨[], by rw [List.append_nil, HW.out.top hyt]⟩
        · exact ⟨_, HW.out.parts HROWS.out hc4 HY.out⟩
      have hna : na ≤ j := by
        obtain ⟨B, hB⟩ := HAN.out
        rw [HNA.out, HNN.out, hB, List.length_append]; omega
      have hno : no ≤ na := by
        rw [HNA.out, HNO.out, HW.out.own HROWS.out hc4 HY.out, List.length_append]; omega
      obtain ⟨d, HD⟩ : ∃ d, Hid (d = na - no) := ⟨_, rfl⟩
      have HTK : Hid (N.take na = A) := by
        show _ = _
        obtain ⟨B, hB⟩ := HAN.out
        rw [HNA.out, hB, List.take_left']
        rfl
      have HDR : Hid (A.drop d = O) := by
        show _ = _
        have h5 := HW.out.own HROWS.out hc4 HY.out
        rw [HD.out, HNA.out, HNO.out, h5, List.length_append, Nat.add_sub_cancel, List.drop_left']
        rfl
      have HO1' := hid (HO1.out.below HB7.out)
      obtain ⟨VA, HVA⟩ : ∃ V, Hid (V = sliced A1 0 na cap1 1) := ⟨_, rfl⟩
      obtain ⟨VB, HVB⟩ : ∃ V, Hid (V = sliced A2 d na cap2 1) := ⟨_, rfl⟩
      have hcap1 := HO1.out.cap
      have hsl : ∀ W, (Instr.slice 41 (.slice A1 j cap1) none (some (.int .i64 (na : Int))) none).run Try.prog W = .ok VA W := fun W => by rw [HVA.out]; exact tcut_to W A1 j cap1 na (by omega)
      have hsl2 : ∀ W, (Instr.slice 41 (.slice A2 na cap2) (some (.int .i64 (d : Int))) none none).run Try.prog W = .ok VB W := fun W => by rw [HVB.out]; exact tcut_from W A2 na cap2 d (by have := HD.out; omega)
      have HVAE : Hid (Elems 1 cT w7 VA A) := by rw [HVA.out, ← HTK.out]; exact HO1'.out.to_ cT_len (by rw [← HNN.out]; exact hna)
      have HVBE : Hid (Elems 1 cT w7 VB O) := by
        have h5 := HO2'.out.from_ cT_len (m := d) (by rw [← HNA.out]; have := HD.out; omega)
        rw [← HNA.out, HDR.out] at h5
        rw [HVB.out]; exact h5
      have hwd : IntKind.i64.wrap ((na : Int) - (no : Int)) = (d : Int) := by have := HD.out; rw [show (na : Int) - (no : Int) = (d : Int) by omega]; exact wrap_ok (by omega) (by omega)
      have hli1 : ¬ (j : Int) < (na : Int) := by omega
      have hli2 : ¬ (na : Int) < (no : Int) := by omega
      have hAB := hid (by have := keys_byt HROWS.out c (-9223372036854775808) y; rwa [← HA.out] at this : ∀ x ∈ A, Byt x)
      have hOB := hid (by have := keys_byt HROWS.out c y y; rwa [← HO.out] at this : ∀ x ∈ O, Byt x)
      clear hcap1
      go_wp2_with fail
      refine (texts_same _ _ VA A HO2'.out HVAE.out hAB.out).mono ?_
      rintro e w8 ⟨rfl, hb8⟩
      have HB8 := hid hb8
      clear hb8 b0 b1
      go_wp2_with fail
      refine (texts_same _ _ VB O (HO3.out.below HB8.out) (HVBE.out.below HB8.out) hOB.out).mono ?_
      rintro e w9 ⟨rfl, hb9⟩
      have HB9 := hid (below_step HB8.out hb9)
      have HBW := hid (below_step HB4.out (below_step HB7.out HB9.out))
      have HT9 := hid (HT7.out.below HB9.out)
      obtain ⟨b0, b1⟩ := HBX.out.below HBW.out
      clear hb9 hsl hsl2 hwd
      by_cases hyt : y = 9223372036854775807
      · have HNJ : Hid (na = j) := by show _ = _; rw [HNA.out, HNN.out, HW.out.top hyt]
        obtain rfl : na = j := HNJ.out
        subst hyt
        go_wp2_with fail
        refine (awake_any _).mono ?_
        rintro e w10 ⟨rfl, hb10⟩
        go_wp2
        go_ret
        exact ⟨rfl, below_step (below_step HBA.out HBW.out) hb10⟩
      · have hy1 := HY.out.1
        have hy2 := HY.out.2
        have hwy : IntKind.i64.wrap (y + 1) = y + 1 := wrap_ok (by omega) (by omega)
        have HY1 : Hid (I64 (y + 1)) := ⟨by omega, by omega⟩
        have HYL : Hid (y + 1 ≤ 9223372036854775807) := by show _ ≤ _; omega
        clear hy1 hy2
        obtain ⟨B, HBB⟩ : ∃ N, Hid (N = (tellK c (y + 1) 9223372036854775807 l).map Prod.fst) := ⟨_, rfl⟩
        have HNAB : Hid (N = A ++ B) := by rw [HBB.out]; exact HW.out.parts HROWS.out hc4 HY.out
        go_wp2_with fail
        refine (tfind_all HT9.out c hc4 (y + 1) _ HY1.out hHI.out HYL.out).mono ?_
        rw [← HBB.out]
        rintro e w10 ⟨v4, rfl, ho4, hb10⟩
        have HB10 := hid hb10
        have HO4 := hid ho4.rows
        clear hb10 ho4 b0 b1
        obtain ⟨A4, cap4, hv4⟩ := HO4.out.slice
        subst hv4
        obtain ⟨nb, HNB⟩ : ∃ n, Hid (n = B.length) := ⟨_, rfl⟩
        rw [← HNB.out] at HO4 ⊢
        have hnab : (na : Int) + (nb : Int) = (j : Int) := by
          have h5 := congrArg List.length HNAB.out
          rw [List.length_append, ← HNN.out, ← HNA.out, ← HNB.out] at h5
          omega
        have hwn : IntKind.i64.wrap ((na : Int) + (nb : Int)) = (j : Int) := by rw [hnab]; exact wrap_ok (by omega) (by omega)
        have HO1'' := hid (HO1'.out.below (below_step HB9.out HB10.out))
        obtain ⟨VC, HVC⟩ : ∃ V, Hid (V = sliced A1 na j cap1 1) := ⟨_, rfl⟩
        have hsl3 : ∀ W, (Instr.slice 41 (.slice A1 j cap1) (some (.int .i64 (na : Int))) none none).run Try.prog W = .ok VC W := fun W => by rw [HVC.out]; exact tcut_from W A1 j cap1 na hna
        have HVCE : Hid (Elems 1 cT w10 VC B) := by
          have h5 := HO1''.out.from_ cT_len (m := na) (by rw [← HNN.out]; exact hna)
          rw [← HNN.out] at h5
          have h6 : N.drop na = B := by rw [HNAB.out, HNA.out, List.drop_left']; rfl
          rw [h6] at h5
          rw [HVC.out]; exact h5
        have hBB := hid (by have := keys_byt HROWS.out c (y + 1) 9223372036854775807; rwa [← HBB.out] at this : ∀ x ∈ B, Byt x)
        clear hnab
        go_wp2_with fail
        refine (texts_same _ _ VC B HO4.out HVCE.out hBB.out).mono ?_
        rintro e w11 ⟨rfl, hb11⟩
        have HB11 := hid (below_step HB10.out hb11)
        clear hb11 hsl3
        go_wp2_with fail
        refine (awake_any _).mono ?_
        rintro e w12 ⟨rfl, hb12⟩
        go_wp2
        go_ret
        exact ⟨rfl, below_step (below_step (below_step HBA.out HBW.out) HB11.out) hb12⟩
theorem tablewhole_any (w : World) (n : Int) (v : Value) (os : List Op7) (hv : Elems 6 cOp w v os) (hos : OpsOk os) (x y : Int) (hy : I64 y) : Calls Try.prog 4 #[.int .i64 n, v, .agg #[.int .i64 x, .int .i64 y]] w (Yes w) := by
  by_cases hn : 1 ≤ n ∧ n ≤ 1024
  · have hr : rightB n = true := decide_eq_true hn
    cases hf : few7 os with
    | false => exact whole_e2 w n v x y os hv hr hf
    | true =>
      by_cases hx : x < 0
      · exact whole_e3 w n v x y os hv hr hf hx
      · by_cases hx3 : 3 < x
        · exact whole_e4 w n v x y os hv hr hf hx hx3
        · obtain ⟨k, rfl⟩ : ∃ k : Nat, n = (k : Int) := ⟨n.toNat, by omega⟩
          obtain ⟨c, rfl⟩ : ∃ k : Nat, x = (k : Int) := ⟨x.toNat, by omega⟩
          exact whole_ok w k (by omega) (by omega) v os hv hos c (by omega) y hy hf
  · exact whole_e1 w n v x y (decide_eq_false hn)
end Go.Proofs.Ytlnagdodnkhbmaa

