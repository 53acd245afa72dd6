/- TreeAny: keys that are keys, no two alike. -/
import Derived.Test.YtpckaglefmpkcaaW14
namespace Go.Proofs.Ytpckaglefmpkcaa
open Go.RowKit Go.Shelf
set_option maxRecDepth 100000
attribute [local go_sem] Oper.semAt_some

theorem put_raw {w : World} {p o : Nat} {l : List Pr} {P : Bl} (h : TreeAt w p o l P) (hl : l.length ≤ 5000) (k : List Nat) (hkb : Byt k) (hk : keyOk k) (hw : putW l k vV = false) :
    Calls Try.prog 28 #[.pointer (some ⟨p, 0, none⟩), .string (str k), .string ⟨#[118]⟩] w fun e w' => e = .returned (.tuple #[.string (str (putA l k vV)), .bool false, .int .i64 0]) ∧ Done P w w' p o (putN l k vV) := by
  have h1 := h.put hl k vV hkb vV_byt (by have := hk.2; omega)
  rw [hw, putE_ok hk] at h1
  rw [vV_str]
  exact h1
/-- Where one begins that goes round. -/
def rotI (f : Int) (n : Nat) : Nat := ((Int.tmod f n + n) % n).toNat
theorem rem_run (t : TypeId) (a : Int) {b : Int} (h : b ≠ 0) : binOp .rem t (.int .i64 a) (.int .i64 b) = pure (.int .i64 (a.tmod b)) := by
  rw [binOp_rem]
  unfold Op.intDiv
  rw [if_neg h]
theorem rotI_eqs {f : Int} {n : Nat} (h : 0 < n) : -(n : Int) < Int.tmod f n ∧ Int.tmod f n < n ∧ (Int.tmod f n + n) % (n : Int) = (rotI f n : Int) ∧ (Int.tmod f n + n).tmod (n : Int) = (rotI f n : Int) ∧ rotI f n < n := by
  have hn : (0 : Int) < n := by omega
  have h1 : Int.tmod f n < n := Int.tmod_lt_of_pos f hn
  have h2 : -(n : Int) < Int.tmod f n := by
    have h3 := Int.tmod_lt_of_pos (-f) hn
    rw [Int.neg_tmod] at h3
    omega
  have h4 : 0 ≤ (Int.tmod f n + n) % (n : Int) := Int.emod_nonneg _ (by omega)
  have h5 : (Int.tmod f n + n) % (n : Int) < n := Int.emod_lt_of_pos _ hn
  have h6 : (Int.tmod f n + n) % (n : Int) = (rotI f n : Int) := by unfold rotI; omega
  refine ⟨h2, h1, h6, ?_, by omega⟩
  rw [Int.tmod_eq_emod_of_nonneg (by omega)]
  exact h6
set_option maxHeartbeats 8000000 in
theorem any_ok (w : World) (o : Nat) (f : Int) (v : Value) (l : List (List Nat)) (hv : Elems 1 cT w v l) (hby : ∀ x ∈ l, Byt x) (h2 : 2 ≤ o) (h16 : o ≤ 16) (hl : l.length ≤ 100) (hg : Good l) (hf1 : -9223372036854775808 ≤ f) (hf2 : f ≤ 9223372036854775807) :
    Calls Try.prog 10 #[.int .i64 (o : Int), v, .int .i64 f] w (Yes w) := by
  obtain ⟨A, cap, rfl⟩ := hv.slice
  obtain ⟨wB, HWB⟩ : ∃ W, Hid (W = w.alloc (.cells #[.bool false] 4)) := ⟨_, rfl⟩
  obtain ⟨c0, f0, hb0⟩ := anyres w
  rw [← HWB.out] at c0 f0 hb0
  have C0 := hid c0
  have F0 := hid f0
  have HB0 := hid hb0
  have HBY := hid hby
  have HG := hid hg
  obtain ⟨len, HLEN⟩ : ∃ len, Hid (len = l.length) := ⟨_, rfl⟩
  have HV := hid (hv.below hb0)
  rw [← HLEN.out] at hl HV ⊢
  have hli : ¬ (100 : Int) < len := by omega
  clear c0 f0 hb0 hv hby hg
  refine (callsIn_wide (n := 3)).1 ?_
  refine callsIn_of_wp_marks Try.func10 rfl trivial ?_ rfl
  simp only [Try.ntmps10, List.size_toArray, List.length_cons, List.length_nil, Nat.reduceAdd, Nat.reduceSub, Array.replicate_succ, Array.replicate_zero, List.push_toArray, List.append_toArray, List.nil_append, List.cons_append]
  refine wpIn_wide.2 ?_
  go_wp2_with fail
  rw [← HWB.out]
  refine (tree_new_in _ o h2 h16).mono ?_
  rintro e w1 ⟨t1, P1, rfl, hb1, ha1, ht1, hp1⟩
  have HT1 := hid ht1
  have HA1 := hid ha1
  have HP1 := hid hp1
  have HB1 := hid hb1
  clear ht1 ha1 hb1 hp1
  go_wp2_with fail
  refine (tree_new_in _ o h2 h16).mono ?_
  rintro e w2 ⟨t2, P2, rfl, hb2, ha2, ht2, hp2⟩
  have HTW2 := tw_new HT1.out HB1.out HA1.out ht2 hb2 ha2 hp2
  have HLT1 : Hid (t1 < w2.heap.size) := HTW2.ta.lt
  have HLT2 : Hid (t2 < w2.heap.size) := HTW2.tb.lt
  obtain ⟨w4, HW4⟩ : ∃ W, Hid (W = w2.alloc (.cells #[.int .i64 (len : Int)] 3)) := ⟨_, rfl⟩
  have HB4 : Hid (Below wB.heap.size wB w4) := by
    rw [HW4.out]; exact (below_step HB1.out hb2).alloc (Nat.le_trans HB1.out.size hb2.size) _
  have N4 : Hid (w4.cell? ⟨w2.heap.size, 0, none⟩ = some (.int .i64 (len : Int))) := by rw [HW4.out]; exact (new_cell w2 _ _).1
  have HTW : Hid (Tw wB w4 P1 P2 t1 t2 o o [] []) := by rw [HW4.out]; exact HTW2.below_ ((Below.refl _ _).alloc (Nat.le_refl _) _)
  have HV4 := hid (HV.out.below HB4.out)
  clear hb2 ha2 ht2 hp2 HTW2
  go_wp2
  rw [← HW4.out]
  go_loopw [12] (fun i wr => ∃ k : Nat, k ≤ len ∧ i = .int .i64 k ∧ ∃ m, wr = w4.drewN m) (fun i _ => len - (intOf i).toNat)
  case atStart => exact ⟨0, by omega, rfl, 0, rfl⟩
  case round =>
    obtain ⟨k, hk, rfl, m, rfl⟩ := hrel
    have n4 := N4.out
    by_cases hkl : k < len
    · have hkl' : (k : Int) < len := by omega
      obtain ⟨x, hx⟩ : ∃ x, l[k]? = some x := ⟨l[k]'(by have := HLEN.out; omega), List.getElem?_eq_getElem _⟩
      have hbx := HBY.out x (List.mem_of_getElem? hx)
      have hxo := HG.out.1 x (List.mem_of_getElem? hx)
      obtain ⟨ad, rfl, hcx⟩ := HV4.out.text hx
      have hsx := str_size x
      have HX := hid hx
      have HBX := hid hbx
      have hx1 : ¬ (x.length : Int) < 1 := by have := hxo.1; omega
      have hx2 : ¬ (64 : Int) < x.length := by have := hxo.2; omega
      have HTX : Hid (∀ j y, l[j]? = some y → w4.cell? (ad.add j) = some (.string (str y))) := fun j y hy => by
        obtain ⟨ad', e, h⟩ := HV4.out.text hy
        injection e with e
        subst e
        exact h
      clear hx hbx hxo
      go_wp2
      clear hcx n4
      go_loopw [13] (fun i wr => ∃ j : Nat, j ≤ k ∧ i = .int .i64 j ∧ ∃ m, wr = w4.drewN m) (fun i _ => k + 1 - (intOf i).toNat)
      case atStart => exact ⟨0, by omega, rfl, _, rfl⟩
      case round =>
        obtain ⟨j, hj, rfl, m1, rfl⟩ := hrel
        by_cases hjk : j < k
        · have hjki : (j : Int) < k := by omega
          have hjl : (j : Int) < len := by omega
          obtain ⟨y, hy⟩ : ∃ y, l[j]? = some y := ⟨l[j]'(by have := HLEN.out; omega), List.getElem?_eq_getElem _⟩
          have hne := text_ne HBX.out (HBY.out y (List.mem_of_getElem? hy)) (good_at (k := l.length) (by rw [List.take_length]; exact HG.out) (by have := HLEN.out; omega) HX.out hjk hy).2
          have hbe : ((str y).toList == (str x).toList) = false := by simp [hne]
          have hbd : decide ((str y).toList = (str x).toList) = false := decide_eq_false hne
          have hty := HTX.out j y hy
          have htx := HTX.out k x HX.out
          clear hy
          go_wp2
          go_quiet (fail)
          go_wp2
          go_roundw
          case rel => first | exact ⟨j + 1, by omega, by go_num, _, rfl⟩ | ((repeat apply Exists.intro); refine ⟨?_, rfl⟩; exact ⟨j + 1, by omega, by go_num, _, rfl⟩)
          case measure => simp [intOf]; omega
        · obtain rfl : j = k := by omega
          go_wp2
          go_roundw
          case rel => first | exact ⟨j + 1, by omega, by go_num, _, rfl⟩ | ((repeat apply Exists.intro); refine ⟨?_, rfl⟩; exact ⟨j + 1, by omega, by go_num, _, rfl⟩)
          case measure => simp [intOf]; omega
    · obtain rfl : k = len := by omega
      obtain ⟨w5, HW5⟩ : ∃ W, Hid (W = w4.drewN m) := ⟨_, rfl⟩
      have HB5 : Hid (Below wB.heap.size wB w5) := by rw [HW5.out]; exact below_drewN' HB4.out m
      have N5 : Hid (w5.cell? ⟨w2.heap.size, 0, none⟩ = some (.int .i64 (k : Int))) := by rw [HW5.out]; exact n4
      have HTW5 : Hid (Tw wB w5 P1 P2 t1 t2 o o [] []) := by rw [HW5.out]; exact HTW.out.below_ ⟨rfl, rfl, rfl, Nat.le_refl _, fun _ _ => rfl⟩
      rw [← HW5.out]
      obtain ⟨R, HR⟩ : ∃ R, Hid (R = rotI f k) := ⟨_, rfl⟩
      have n5 := N5.out
      clear n4 hk hkl
      go_wp2
      clear n5
      go_loopw [14] (fun i wr => ∃ j : Nat, j ≤ k ∧ i = .int .i64 j ∧ ∃ Pa Pb la lb, Tw wB wr Pa Pb t1 t2 o o la lb ∧ Have la (l.take j) ∧ Have lb ((rot l R).take j) ∧ Chg [t1, t2] w5 wr [t1, t2]) (fun i _ => k - (intOf i).toNat)
      case atStart => exact ⟨0, by omega, rfl, P1, P2, [], [], HTW5.out, Have.nil, Have.nil, Chg.refl _ _⟩
      case round =>
        obtain ⟨j, hj, rfl, Pa, Pb, la, lb, htw, hha, hhb, hcc⟩ := hrel
        have HS := hid htw
        have HHA := hid hha
        have HHB := hid hhb
        have HCC := hid hcc
        have hne : w2.heap.size ∉ [t1, t2] := by simp; have := HLT1.out; have := HLT2.out; omega
        have nr := chg_cell hcc N5.out hne
        clear htw hha hhb hcc hne
        by_cases hjk : j < k
        · have hjki : (j : Int) < k := by omega
          obtain ⟨x, hx⟩ : ∃ x, l[j]? = some x := ⟨l[j]'(by have := HLEN.out; omega), List.getElem?_eq_getElem _⟩
          obtain ⟨ad, rfl, hcx⟩ := (HV.out.below HS.out.since).text hx
          have HX := hid hx
          have HBX := hid (HBY.out x (List.mem_of_getElem? hx))
          have HKX := hid (HG.out.1 x (List.mem_of_getElem? hx))
          obtain ⟨HNA, HWA⟩ : Hid (Have (putN la x vV) (l.take (j + 1))) ∧ Hid (putW la x vV = false) := by
            obtain ⟨h1, h2⟩ := nodup_take HG.out.2 hx
            obtain ⟨h3, h4⟩ := HHA.out.put HS.out.ta.rise HKX.out h1
            rw [h2] at h3
            exact ⟨h3, h4⟩
          have HLA : Hid (la.length ≤ 5000) := by show _ ≤ _; rw [HHA.out.1, List.length_take]; omega
          have HLB : Hid (lb.length ≤ 5000) := by show _ ≤ _; rw [HHB.out.1, List.length_take]; omega
          clear hx
          go_wp2_with fail
          refine (put_raw HS.out.ta HLA.out x HBX.out HKX.out HWA.out).mono ?_
          rintro e w6 ⟨rfl, hd⟩
          have HS6 := hid (HS.out.turnA hd)
          have HC6 := hid (HCC.out.trans (hd.2.wide2 (by simp)))
          clear hd nr hcx
          have hne : w2.heap.size ∉ [t1, t2] := by simp; have := HLT1.out; have := HLT2.out; omega
          have nr := chg_cell HC6.out N5.out hne
          clear hne
          obtain ⟨m1, m2, m3, m4, m5⟩ := rotI_eqs (f := f) (n := k) (by omega)
          rw [← HR.out] at m3 m4 m5
          have m6 : (k : Int) ≠ 0 := by omega
          obtain ⟨I, hI⟩ : ∃ I, I = (R + j) % k := ⟨_, rfl⟩
          have m7 : I < k := by rw [hI]; exact Nat.mod_lt _ (by omega)
          have m8 : ((R : Int) + (j : Int)) % (k : Int) = (I : Int) := by rw [hI]; push_cast; rfl
          have m9 : ((R : Int) + (j : Int)).tmod (k : Int) = (I : Int) := by rw [Int.tmod_eq_emod_of_nonneg (by omega)]; exact m8
          have hrot : (rot l R)[j]? = l[I]? := by rw [hI]; have := HLEN.out; rw [rot_at (by omega) (by omega), ← this]
          obtain ⟨y, hy⟩ : ∃ y, l[I]? = some y := ⟨l[I]'(by have := HLEN.out; omega), List.getElem?_eq_getElem _⟩
          obtain ⟨ad', ead, hcy⟩ := (HV.out.below HS6.out.since).text hy
          injection ead with ead
          subst ead
          have HBYY := hid (HBY.out y (List.mem_of_getElem? hy))
          have HKY := hid (HG.out.1 y (List.mem_of_getElem? hy))
          obtain ⟨HNB, HWB'⟩ : Hid (Have (putN lb y vV) ((rot l R).take (j + 1))) ∧ Hid (putW lb y vV = false) := by
            obtain ⟨h1, h2⟩ := nodup_take (rot_nodup HG.out.2 R) (hrot.trans hy)
            obtain ⟨h3, h4⟩ := HHB.out.put HS6.out.tb.rise HKY.out h1
            rw [h2] at h3
            exact ⟨h3, h4⟩
          obtain ⟨G, hG⟩ : ∃ G, Int.tmod f (k : Int) = G := ⟨_, rfl⟩
          have hrem : ∀ t, binOp .rem t (.int .i64 f) (.int .i64 (k : Int)) = pure (.int .i64 G) := fun t => by
            rw [← hG]
            exact rem_run t f m6
          rw [hG] at m1 m2 m3 m4
          have hrem2 : ∀ t, binOp .rem t (.int .i64 (G + (k : Int))) (.int .i64 (k : Int)) = pure (.int .i64 (R : Int)) := fun t => by rw [rem_run t _ m6, m4]
          have hrem3 : ∀ t, binOp .rem t (.int .i64 ((R : Int) + (j : Int))) (.int .i64 (k : Int)) = pure (.int .i64 (I : Int)) := fun t => by rw [rem_run t _ m6, m9]
          have m7i : (I : Int) < k := by omega
          have hw1 : IntKind.i64.wrap (G + (k : Int)) = G + (k : Int) := IntWalk.i64_in _ (by omega)
          have hw2 : IntKind.i64.wrap ((R : Int) + (j : Int)) = (R : Int) + (j : Int) := IntWalk.i64_in _ (by have := m5; omega)
          have HTXT : Hid (∀ W, Below wB.heap.size wB W → W.cell? (ad.add I) = some (.string (str y))) := by
            intro W hb
            obtain ⟨ad', e, h⟩ := (HV.out.below hb).text hy
            injection e with e
            subst e
            exact h
          have HNE : Hid (w2.heap.size ∉ [t2]) := fun h => by have := List.mem_singleton.1 h; have := HLT2.out; omega
          have NRD : Hid (w6.drew.cell? ⟨w2.heap.size, 0, none⟩ = some (.int .i64 (k : Int))) := nr
          have HS6D := hid (HS6.out.below_ (Below.refl _ w6).drew)
          have NR := hid nr
          have HCY := hid hcy
          clear hI hrot hy m5
          go_wp2
          go_region_held3 (fun W => W.cell? ⟨w2.heap.size, 0, none⟩ = some (.int .i64 (k : Int)) ∧ W.cell? (ad.add I) = some (.string (str y))) (first | exact ⟨nr, hcy⟩ | exact HNX.out)
            (first | (go_at_call 28; ((with_reducible refine (put_raw HS6D.out.tb HLB.out y HBYY.out HKY.out HWB'.out).mono ?_); rintro e w7 ⟨rfl, hd⟩; have HS7 := hid (HS6D.out.turnB hd); have HC7 := hid (HC6.out.trans ((Chg.of_below (F := [t1, t2]) (Below.refl _ w6).drew).trans (hd.2.wide2 (by simp)))); have HNX := hid (And.intro (chg_cell hd.2 NRD.out HNE.out) (HTXT.out w7 HS7.out.since)); clear hd)))
          clear m1 m2 m3 m4 m6 m7 m7i m8 m9 hrem hrem2 hrem3 hw1 hw2 nr hcy hG
          go_wp2
          go_roundw
          case rel => first | exact ⟨j + 1, by omega, by go_num, _, _, _, _, HS7.out, HNA.out, HNB.out, HC7.out⟩ | ((repeat apply Exists.intro); refine ⟨?_, rfl⟩; exact ⟨j + 1, by omega, by go_num, _, _, _, _, HS7.out, HNA.out, HNB.out, HC7.out⟩)
          case measure => simp [intOf]; omega
        · obtain rfl : j = k := by omega
          have HAL : Hid (la.length = j) := by show _ = _; rw [HHA.out.1, List.length_take]; have := HLEN.out; omega
          have HEQ : Hid (la = lb) := by
            have h1 := HHA.out
            have h2 := HHB.out
            rw [List.take_of_length_le (by have := HLEN.out; omega)] at h1
            rw [List.take_of_length_le (by unfold rot; rw [List.length_append, List.length_drop, List.length_take]; have := HLEN.out; omega)] at h2
            exact h1.same h2 HS.out.ta.rise HS.out.tb.rise fun x => (rot_mem l R x).symm
          obtain ⟨L, HLE⟩ : ∃ L, Hid (L = la) := ⟨_, rfl⟩
          have HS' : Hid (Tw wB wr Pa Pb t1 t2 o o L L) := by rw [HLE.out]; have h := HS.out; rw [← HEQ.out] at h; exact h
          have HLL : Hid (L.length = j) := by rw [HLE.out]; exact HAL.out
          have hLL : L.length ≤ 200 := by have := HLL.out; omega
          have NAr := hid nr
          clear HS HHA HHB HAL HEQ HLE
          have HS := HS'
          clear HS'
          obtain ⟨wa, rfl⟩ : ∃ wa, wa = wr := ⟨_, rfl⟩
          have NA := NAr
          go_wp2_with fail
          obtain ⟨wl, HWL⟩ : ∃ W, Hid (W = (wa.alloc (.cells #[.slice none 0 0] 32)).alloc (.cells #[.pointer (some ⟨wa.heap.size, 0, none⟩)] 29)) := ⟨_, rfl⟩
          have HBL : Hid (Below wa.heap.size wa wl) := by rw [HWL.out]; exact ((Below.refl _ wa).alloc (Nat.le_refl _) _).alloc (by simp) _
          have RCL : Hid (wl.cell? ⟨wa.heap.size + 1, 0, none⟩ = some (.pointer (some ⟨wa.heap.size, 0, none⟩))) := by
            rw [HWL.out]
            have := cell_of_row _ _ 0 _ _ _ (heap_alloc_new (wa.alloc (.cells #[.slice none 0 0] 32)) (.cells #[.pointer (some ⟨wa.heap.size, 0, none⟩)] 29))
            rwa [World.size_alloc] at this
          have ONEL : Hid (One wl wa.heap.size 32 (.slice none 0 0)) := by rw [HWL.out]; exact (One.new wa _ _).alloc _
          rw [← HWL.out]
          refine (HS.out.ta.below HBL.out).all.mono ?_
          rintro e w3 ⟨gf, lb, G, rfl, hb3, hw3, hG3⟩
          have HB3 := hid hb3
          have NA3 : Hid (w3.cell? ⟨w2.heap.size, 0, none⟩ = some (.int .i64 (j : Int))) := below_keep (below_step HBL.out hb3) _ _ NA.out
          have HNP : Hid (w2.heap.size ≠ wa.heap.size) := by show _ ≠ _; have := blk_lt NA.out; simp at this; omega
          have RC3 := hid (below_keep hb3 _ _ RCL.out)
          have ONE3 : Hid (One w3 wa.heap.size 32 (.slice none 0 0)) := ONEL.out.keep (hb3.block _ ONEL.out.lt)
          have HPL : Hid (wa.heap.size < w3.heap.size) := ONE3.out.lt
          have HNE : Hid (wa.heap.size + 1 ≠ wa.heap.size) := by show _ ≠ _; omega
          have HAB := hid (collI_abide (w3 := w3) HPL.out)
          have hnG : ¬ G wa.heap.size := fun h => by
            rcases hG3 _ h with h | h
            · have := HS.out.ta.under _ h; omega
            · have := ONEL.out.lt; omega
          have hnil := run_eql_nil
          clear hb3
          go_wp2
          clear hnil
          refine (wpIn_wide (n := 3)).1 ?_
          refine range_own (gf := gf) (lb := lb) rfl hw3.en hw3.gives (w0 := w3) (Stay.refl _ _) (fun _ => rfl) (CollI w3 wa.heap.size) (fun _ _ _ _ => False) HAB.out (fun _ _ _ _ _ _ h => h.elim) G (fun _ h => h) hw3.lt
            ⟨Chg.refl _ _, _, ONE3.out, OwnElems.nil _ _ _ _ _, hnG, by simp [ownFoot, Value.ownBlock]⟩ ?round ?done ?stop
          case stop =>
            rintro D c pre K W _ h
            exact h.elim
          case round =>
            rintro lq pre x K W m hI hKW hKl hlq hpre
            unfold encP
            gi_wp2
            refine ⟨Stay.refl _ _, fun W2 hg2 => ?_⟩
            obtain ⟨hc2, v, hone, hown, hkp, hkr⟩ := HAB.out pre K W W2 (some lq) hI hg2 (fun r e => by injection e with e; subst e; exact ⟨hlq, hKl⟩) K fun b h => .inl h
            have HW2 : Hid (W.heap.size ≤ W2.heap.size) := hg2.size
            have hprl : pre.length < L.length := by have := hpre.length_le; simp at this; omega
            clear hI hg2
            obtain ⟨Av, nv, cv, rfl⟩ := hown.rows.form

            have HONE := hid hone
            have HOWN := hid hown
            have HC2 := hid hc2
            have HKK := hid hkr
            have HKP := hid hkp
            have q0 := chg_cell hc2 RC3.out (fun h => by simp at h)
            have HNW : Hid (W2.cell? ⟨w2.heap.size, 0, none⟩ = some (.int .i64 (j : Int))) := chg_cell hc2 NA3.out (fun h => HNP.out (by simpa using h))
            have qp := hone.cell
            have qf := hone.frozen
            have HSN : Hid (∀ X, Below W2.heap.size W2 X → X.cell? ⟨wa.heap.size + 1, 0, none⟩ = some (.pointer (some ⟨wa.heap.size, 0, none⟩)) ∧ X.frozen? ⟨wa.heap.size, 0, none⟩ = false) := fun X hb =>
              ⟨below_keep hb _ _ q0, (hb.frozen (p := ⟨wa.heap.size, 0, none⟩) (blk_lt qp)).trans qf⟩
            have HQP : Hid (∀ X, Below W2.heap.size W2 X → X.cell? ⟨wa.heap.size, 0, none⟩ = some (.slice Av nv cv)) := fun X hb => below_keep hb _ _ qp
            have HOWD : Hid (OwnElems 2 cP 59 (W2.alloc (.cells #[.string (str x.1), .string (str x.2)] 59)).drew w3.heap.size (.slice Av nv cv) pre) := hown.keep fun b hb => Below.heap_alloc W2 _ b (hown.lt b hb).2
            have HROWX : Hid (Elems 2 cP (W2.alloc (.cells #[.string (str x.1), .string (str x.2)] 59)).drew (.slice (some ⟨W2.heap.size, 0, none⟩) 1 1) [x]) := rows_new W2.drew 2 cP cP_len x _
            obtain ⟨ip, hip, hzp, hsp, hyp⟩ := info_parts info_pair
            clear hc2 hone hown hkr hkp
            gi_wp2
            clear q0 qp qf
            refine region_in_round 13 (fun X => X.cell? ⟨wa.heap.size + 1, 0, none⟩ = some (.pointer (some ⟨wa.heap.size, 0, none⟩)) ∧ X.frozen? ⟨wa.heap.size, 0, none⟩ = false) rfl (by kernel_rfl) (by kernel_rfl) (fun _ _ h => h) (HSN.out _ (below_drew1 (Below.refl _ _))) fun hS => ?_
            refine wpAnyH_take (i := 0) (v := ?_) rfl (by kernel_rfl) (by kernel_rfl) (by kernel_rfl) (fun _ _ _ h => h) (Or.inl ⟨by rfl, ?hy0⟩) (by assumption) ?rs0
            case hy0 => (intro X hSX; (try dsimp only at hSX); go_simp <;> with_reducible rfl)
            try simp only [Act.put, List.setIfInBounds_toArray, List.set_cons_zero, List.set_cons_succ]
            refine wpAnyH_take (i := 1) (v := ?_) rfl (by kernel_rfl) (by kernel_rfl) (by kernel_rfl) (fun _ _ _ h => h) (Or.inl ⟨by rfl, ?hy1⟩) (by assumption) ?rs1
            case hy1 => (intro X hSX; (try dsimp only at hSX); go_simp <;> with_reducible rfl)
            try simp only [Act.put, List.setIfInBounds_toArray, List.set_cons_zero, List.set_cons_succ]
            refine wpAnyH_take (i := 2) (v := ?_) rfl (by kernel_rfl) (by kernel_rfl) (by kernel_rfl) (fun _ _ _ h => h) (Or.inl ⟨by rfl, ?hy2⟩) (by assumption) ?rs2
            case hy2 => (intro X hSX; (try dsimp only at hSX); go_simp <;> with_reducible rfl)
            try simp only [Act.put, List.setIfInBounds_toArray, List.set_cons_zero, List.set_cons_succ]
            refine wpAnyH_take (i := 3) (v := ?_) rfl (by kernel_rfl) (by kernel_rfl) (by kernel_rfl) (fun _ _ _ h => h) (Or.inl ⟨by rfl, ?hy3⟩) (by assumption) ?rs3
            case hy3 => (intro X hSX; (try dsimp only at hSX); go_simp <;> with_reducible rfl)
            try simp only [Act.put, List.setIfInBounds_toArray, List.set_cons_zero, List.set_cons_succ]
            refine wpAnyH_take (i := 5) (v := ?_) rfl (by kernel_rfl) (by kernel_rfl) (by kernel_rfl) (fun _ _ _ h => h) (Or.inl ⟨by rfl, ?hy5⟩) (by assumption) ?rs5
            case hy5 => (intro X hSX; (try dsimp only at hSX); go_simp <;> with_reducible rfl)
            try simp only [Act.put, List.setIfInBounds_toArray, List.set_cons_zero, List.set_cons_succ]
            refine wpAnyH_take (i := 6) (v := ?_) rfl (by kernel_rfl) (by kernel_rfl) (by kernel_rfl) (fun _ _ _ h => h) (Or.inl ⟨by rfl, ?hy6⟩) (by assumption) ?rs6
            case hy6 => (intro X hSX; (try dsimp only at hSX); go_simp <;> with_reducible rfl)
            try simp only [Act.put, List.setIfInBounds_toArray, List.set_cons_zero, List.set_cons_succ]
            refine wpAnyH_take (i := 7) (v := ?_) rfl (by kernel_rfl) (by kernel_rfl) (by kernel_rfl) (fun _ _ _ h => h) (Or.inl ⟨by rfl, ?hy7⟩) (by assumption) ?rs7
            case hy7 => (intro X hSX; (try dsimp only at hSX); go_simp <;> with_reducible rfl)
            try simp only [Act.put, List.setIfInBounds_toArray, List.set_cons_zero, List.set_cons_succ]
            refine wpAnyH_ready (rs := [4, 8]) (by kernel_rfl) (by simp) ?_
            refine AllReadyH.cons rfl (fun KK hKK => ?_) (AllReadyH.cons rfl (fun KK hKK => ?_) AllReadyH.nil)
            · have qx := HQP.out W2.drew (Below.refl _ _).drew
              go_simp
              refine hKK.out _ _ (HSN.out _ (by repeat (with_reducible (first | assumption | exact Below.refl _ _ | refine below_drew1 ?_ | refine below_drewN_ ?_ | refine below_alloc' ?_ _)))) (fun hH => ?_)
              clear hKK KK qx
              try simp only [Act.put, List.setIfInBounds_toArray, List.set_cons_zero, List.set_cons_succ]
              refine wpAnyH_ready (rs := [8]) (by kernel_rfl) (by simp) ?_
              refine AllReadyH.cons rfl (fun KK hKK => ?_) AllReadyH.nil
              go_simp
              refine hKK.out _ _ (HSN.out _ (by repeat (with_reducible (first | assumption | exact Below.refl _ _ | refine below_drew1 ?_ | refine below_drewN_ ?_ | refine below_alloc' ?_ _)))) (fun hH => ?_)
              clear hKK KK
              try simp only [Act.put, List.setIfInBounds_toArray, List.set_cons_zero, List.set_cons_succ]
              refine wpAnyH_ready (rs := [9]) (by kernel_rfl) (by simp) ?_
              refine AllReadyH.cons rfl (fun KK hKK => ?_) AllReadyH.nil
              refine step_append_rows rfl (.tmp 156) (.tmp 160) 30 rfl w3.heap.size 59 ip _ 2 32 Try.underlying30 hip hzp hsp hyp rfl (by omega) cP_one (.slice Av nv cv) pre rfl HOWD.out (.slice (some ⟨W2.heap.size, 0, none⟩) 1 1) [x] rfl HROWX.out (by simp [maxLen]; omega) (by simp; omega) (by have := HC2.out.size; simp; omega) ?_
              intro v2 w4 ho4 hg4 hf4
              obtain ⟨A2, n2, cc2, rfl⟩ := ho4.rows.form
              have HO4 := hid ho4
              have HG4 := hid hg4
              have HF4 := hid hf4
              have HLN4 : Hid (n2 = pre.length + 1) := by show _ = _; have := ho4.rows.cap.1; simpa using this
              have hrow : ∀ b, b < w3.heap.size → b < W2.heap.size → w4.heap[b]? = W2.heap[b]? := fun b hb hl => (hg4.block b (by simp; omega) fun e => by have := (HOWN.out.lt b (mem_ownFoot.2 e.symm)).1; omega).trans (Below.heap_alloc W2.drew _ b hl)
              have HROW := hid hrow
              have HONE4 : Hid (One w4 wa.heap.size 32 (.slice Av nv cv)) := HONE.out.keep (hrow _ HPL.out HONE.out.lt)
              have HQ4 : Hid (w4.cell? ⟨wa.heap.size + 1, 0, none⟩ = some (.pointer (some ⟨wa.heap.size, 0, none⟩))) := (World.cell?_of_block (hrow _ (blk_lt RC3.out) (Nat.lt_of_lt_of_le (blk_lt RC3.out) HC2.out.size))).trans (chg_cell HC2.out RC3.out (fun h => by simp at h))
              have qp4 := HONE4.out.cell
              have qf4 := HONE4.out.frozen
              clear ho4 hg4 hf4 hrow
              refine hKK.out _ _ ⟨HQ4.out, qf4⟩ (fun hH2 => ?_)
              clear hKK KK
              try simp only [Act.put, List.setIfInBounds_toArray, List.set_cons_zero, List.set_cons_succ]
              refine wpAnyH_take (i := 10) (v := ?_) rfl (by kernel_rfl) (by kernel_rfl) (by kernel_rfl) (fun _ _ _ h => h) (Or.inl ⟨by rfl, ?hy10a⟩) (by assumption) ?rs10a
              case hy10a => (intro X hSX; (try dsimp only at hSX); go_simp <;> with_reducible rfl)
              try simp only [Act.put, List.setIfInBounds_toArray, List.set_cons_zero, List.set_cons_succ]
              refine wpAnyH_take (i := 11) (v := ?_) rfl (by kernel_rfl) (by kernel_rfl) (by kernel_rfl) (fun _ _ _ h => h) (Or.inl ⟨by rfl, ?hy11a⟩) (by assumption) ?rs11a
              case hy11a => (intro X hSX; (try dsimp only at hSX); go_simp <;> with_reducible rfl)
              try simp only [Act.put, List.setIfInBounds_toArray, List.set_cons_zero, List.set_cons_succ]
              refine wpAnyH_ready (rs := [12]) (by kernel_rfl) (by simp) ?_
              refine AllReadyH.cons rfl (fun KK hKK => ?_) AllReadyH.nil
              go_simp
              have HONE5 : Hid (One (w4.setCell ⟨wa.heap.size, 0, none⟩ (.slice A2 n2 cc2)) wa.heap.size 32 (.slice A2 n2 cc2)) := HONE4.out.set _
              have HQ5 : Hid ((w4.setCell ⟨wa.heap.size, 0, none⟩ (.slice A2 n2 cc2)).cell? ⟨wa.heap.size + 1, 0, none⟩ = some (.pointer (some ⟨wa.heap.size, 0, none⟩))) := cellFar (b := ⟨wa.heap.size, 0, none⟩) HQ4.out HNE.out _
              refine hKK.out _ _ ⟨HQ5.out, HONE5.out.frozen⟩ (fun hH3 => ?_)
              clear hKK KK
              refine wpAnyH_done (by kernel_rfl) ?_ _
              have q5 := HQ5.out
              have qp5 := HONE5.out.cell
              have hni : ¬ (j : Int) < n2 := by have := HLN4.out; have := HLL.out; omega
              have n5 : (w4.setCell ⟨wa.heap.size, 0, none⟩ (.slice A2 n2 cc2)).cell? ⟨w2.heap.size, 0, none⟩ = some (.int .i64 (j : Int)) := cellFar (b := ⟨wa.heap.size, 0, none⟩) ((World.cell?_of_block (HROW.out _ (blk_lt NA3.out) (Nat.lt_of_lt_of_le (blk_lt NA3.out) HC2.out.size))).trans HNW.out) HNP.out _
              clear qp4 qf4 hH2 hH3
              gi_wp2
              refine region_in_round 7 (fun X => X.cell? ⟨wa.heap.size + 1, 0, none⟩ = some (.pointer (some ⟨wa.heap.size, 0, none⟩)) ∧ X.cell? ⟨wa.heap.size, 0, none⟩ = some (.slice A2 n2 cc2) ∧ X.cell? ⟨w2.heap.size, 0, none⟩ = some (.int .i64 (j : Int))) rfl (by kernel_rfl) (by kernel_rfl) (fun _ _ h => h) ⟨q5, qp5, n5⟩ fun hSS => ?_
              have HSC := hid (And.intro q5 (And.intro qp5 n5))
              have HNI := hid hni
              clear q5 qp5 n5 hni
              refine wpAnyH_take (i := 0) (v := ?_) rfl (by kernel_rfl) (by kernel_rfl) (by kernel_rfl) (fun _ _ _ h => h) (Or.inl ⟨by rfl, ?hz0a⟩) (by assumption) ?rz0a
              case hz0a => (intro X hSX; (try dsimp only at hSX); go_simp <;> with_reducible rfl)
              try simp only [Act.put, List.setIfInBounds_toArray, List.set_cons_zero, List.set_cons_succ]
              refine wpAnyH_take (i := 1) (v := ?_) rfl (by kernel_rfl) (by kernel_rfl) (by kernel_rfl) (fun _ _ _ h => h) (Or.inl ⟨by rfl, ?hz1a⟩) (by assumption) ?rz1a
              case hz1a => (intro X hSX; (try dsimp only at hSX); go_simp <;> with_reducible rfl)
              try simp only [Act.put, List.setIfInBounds_toArray, List.set_cons_zero, List.set_cons_succ]
              refine wpAnyH_take (i := 2) (v := ?_) rfl (by kernel_rfl) (by kernel_rfl) (by kernel_rfl) (fun _ _ _ h => h) (Or.inl ⟨by rfl, ?hz2a⟩) (by assumption) ?rz2a
              case hz2a => (intro X hSX; (try dsimp only at hSX); go_simp <;> with_reducible rfl)
              try simp only [Act.put, List.setIfInBounds_toArray, List.set_cons_zero, List.set_cons_succ]
              refine wpAnyH_take (i := 3) (v := ?_) rfl (by kernel_rfl) (by kernel_rfl) (by kernel_rfl) (fun _ _ _ h => h) (Or.inl ⟨by rfl, ?hz3a⟩) (by assumption) ?rz3a
              case hz3a => (intro X hSX; (try dsimp only at hSX); go_simp <;> with_reducible rfl)
              try simp only [Act.put, List.setIfInBounds_toArray, List.set_cons_zero, List.set_cons_succ]
              refine wpAnyH_take (i := 4) (v := ?_) rfl (by kernel_rfl) (by kernel_rfl) (by kernel_rfl) (fun _ _ _ h => h) (Or.inl ⟨by rfl, ?hz4a⟩) (by assumption) ?rz4a
              case hz4a => (intro X hSX; (try dsimp only at hSX); go_simp <;> with_reducible rfl)
              try simp only [Act.put, List.setIfInBounds_toArray, List.set_cons_zero, List.set_cons_succ]
              refine wpAnyH_take (i := 5) (v := ?_) rfl (by kernel_rfl) (by kernel_rfl) (by kernel_rfl) (fun _ _ _ h => h) (Or.inl ⟨by rfl, ?hz5a⟩) (by assumption) ?rz5a
              case hz5a => (intro X hSX; (try dsimp only at hSX); go_simp <;> with_reducible rfl)
              try simp only [Act.put, List.setIfInBounds_toArray, List.set_cons_zero, List.set_cons_succ]
              refine wpAnyH_ready (rs := [6]) (by kernel_rfl) (by simp) ?_
              refine AllReadyH.cons rfl (fun KK hKK => ?_) AllReadyH.nil
              have hni := HNI.out
              go_simp
              refine hKK.out _ _ HSC.out (fun hSS2 => ?_)
              clear hKK KK
              refine wpAnyH_done (by kernel_rfl) ?_ _
              gi_wp2
              dsimp only [postB]
              have hne : wa.heap.size ∉ ownFoot (.slice A2 n2 cc2) := fun h => by have := (HO4.out.lt _ h).1; have := HPL.out; omega
              have hW4 : W2.heap.size ≤ w4.heap.size := by have := HG4.out.size; simp at this; omega
              refine ⟨⟨by show _ ≤ (w4.setCell ⟨wa.heap.size, 0, none⟩ (.slice A2 n2 cc2)).heap.size; simp [World.setCell]; omega, fun b hb => ?_⟩, ?_, _, HONE5.out, HO4.out.keep fun b hb => Below.heap_setCell _ _ _ _ (fun e => hne (by rw [e] at hb; exact hb)), HKP.out, fun b hb hKb => ?_⟩
              · have hbl : b < W2.heap.size := Nat.lt_of_lt_of_le (hKW b hb) HW2.out
                have h1 : b ≠ wa.heap.size := fun e => HKP.out (by rw [← e]; exact hb)
                exact (Below.heap_setCell _ _ _ _ h1).trans ((HG4.out.block b (by simp; omega) fun e => HKK.out b (mem_ownFoot.2 e.symm) hb).trans (Below.heap_alloc W2.drew _ b hbl))
              · have hs3 := HC2.out.size
                refine ⟨HG4.out.os.trans HC2.out.os, HG4.out.tape.trans HC2.out.tape, HG4.out.output.trans HC2.out.output, by show _ ≤ (w4.setCell ⟨wa.heap.size, 0, none⟩ (.slice A2 n2 cc2)).heap.size; simp [World.setCell]; omega, fun k hk hn => ?_, fun k hk => .inl hk⟩
                exact (Below.heap_setCell _ _ _ _ (fun e => hn (by rw [e]; simp))).trans ((HROW.out k hk (by omega)).trans (HC2.out.block k hk hn))
              · rcases HF4.out b hb with h | h
                · exact HKK.out b h hKb
                · have h1 := hKW b hKb
                  have h2 := HW2.out
                  simp at h
                  omega
            · go_simp
              refine hKK.out _ _ (HSN.out _ (by repeat (with_reducible (first | assumption | exact Below.refl _ _ | refine below_drew1 ?_ | refine below_drewN_ ?_ | refine below_alloc' ?_ _)))) (fun hH => ?_)
              clear hKK KK
              try simp only [Act.put, List.setIfInBounds_toArray, List.set_cons_zero, List.set_cons_succ]
              have qx := HQP.out (W2.alloc (.cells #[.string (str x.1), .string (str x.2)] 59)).drew (((Below.refl _ _).alloc (Nat.le_refl _) _).drew)
              refine wpAnyH_ready (rs := [4]) (by kernel_rfl) (by simp) ?_
              refine AllReadyH.cons rfl (fun KK hKK => ?_) AllReadyH.nil
              go_simp
              refine hKK.out _ _ (HSN.out _ (by repeat (with_reducible (first | assumption | exact Below.refl _ _ | refine below_drew1 ?_ | refine below_drewN_ ?_ | refine below_alloc' ?_ _)))) (fun hH => ?_)
              clear hKK KK qx
              try simp only [Act.put, List.setIfInBounds_toArray, List.set_cons_zero, List.set_cons_succ]
              refine wpAnyH_ready (rs := [9]) (by kernel_rfl) (by simp) ?_
              refine AllReadyH.cons rfl (fun KK hKK => ?_) AllReadyH.nil
              refine step_append_rows rfl (.tmp 156) (.tmp 160) 30 rfl w3.heap.size 59 ip _ 2 32 Try.underlying30 hip hzp hsp hyp rfl (by omega) cP_one (.slice Av nv cv) pre rfl HOWD.out (.slice (some ⟨W2.heap.size, 0, none⟩) 1 1) [x] rfl HROWX.out (by simp [maxLen]; omega) (by simp; omega) (by have := HC2.out.size; simp; omega) ?_
              intro v2 w4 ho4 hg4 hf4
              obtain ⟨A2, n2, cc2, rfl⟩ := ho4.rows.form
              have HO4 := hid ho4
              have HG4 := hid hg4
              have HF4 := hid hf4
              have HLN4 : Hid (n2 = pre.length + 1) := by show _ = _; have := ho4.rows.cap.1; simpa using this
              have hrow : ∀ b, b < w3.heap.size → b < W2.heap.size → w4.heap[b]? = W2.heap[b]? := fun b hb hl => (hg4.block b (by simp; omega) fun e => by have := (HOWN.out.lt b (mem_ownFoot.2 e.symm)).1; omega).trans (Below.heap_alloc W2.drew _ b hl)
              have HROW := hid hrow
              have HONE4 : Hid (One w4 wa.heap.size 32 (.slice Av nv cv)) := HONE.out.keep (hrow _ HPL.out HONE.out.lt)
              have HQ4 : Hid (w4.cell? ⟨wa.heap.size + 1, 0, none⟩ = some (.pointer (some ⟨wa.heap.size, 0, none⟩))) := (World.cell?_of_block (hrow _ (blk_lt RC3.out) (Nat.lt_of_lt_of_le (blk_lt RC3.out) HC2.out.size))).trans (chg_cell HC2.out RC3.out (fun h => by simp at h))
              have qp4 := HONE4.out.cell
              have qf4 := HONE4.out.frozen
              clear ho4 hg4 hf4 hrow
              refine hKK.out _ _ ⟨HQ4.out, qf4⟩ (fun hH2 => ?_)
              clear hKK KK
              try simp only [Act.put, List.setIfInBounds_toArray, List.set_cons_zero, List.set_cons_succ]
              refine wpAnyH_take (i := 10) (v := ?_) rfl (by kernel_rfl) (by kernel_rfl) (by kernel_rfl) (fun _ _ _ h => h) (Or.inl ⟨by rfl, ?hy10b⟩) (by assumption) ?rs10b
              case hy10b => (intro X hSX; (try dsimp only at hSX); go_simp <;> with_reducible rfl)
              try simp only [Act.put, List.setIfInBounds_toArray, List.set_cons_zero, List.set_cons_succ]
              refine wpAnyH_take (i := 11) (v := ?_) rfl (by kernel_rfl) (by kernel_rfl) (by kernel_rfl) (fun _ _ _ h => h) (Or.inl ⟨by rfl, ?hy11b⟩) (by assumption) ?rs11b
              case hy11b => (intro X hSX; (try dsimp only at hSX); go_simp <;> with_reducible rfl)
              try simp only [Act.put, List.setIfInBounds_toArray, List.set_cons_zero, List.set_cons_succ]
              refine wpAnyH_ready (rs := [12]) (by kernel_rfl) (by simp) ?_
              refine AllReadyH.cons rfl (fun KK hKK => ?_) AllReadyH.nil
              go_simp
              have HONE5 : Hid (One (w4.setCell ⟨wa.heap.size, 0, none⟩ (.slice A2 n2 cc2)) wa.heap.size 32 (.slice A2 n2 cc2)) := HONE4.out.set _
              have HQ5 : Hid ((w4.setCell ⟨wa.heap.size, 0, none⟩ (.slice A2 n2 cc2)).cell? ⟨wa.heap.size + 1, 0, none⟩ = some (.pointer (some ⟨wa.heap.size, 0, none⟩))) := cellFar (b := ⟨wa.heap.size, 0, none⟩) HQ4.out HNE.out _
              refine hKK.out _ _ ⟨HQ5.out, HONE5.out.frozen⟩ (fun hH3 => ?_)
              clear hKK KK
              refine wpAnyH_done (by kernel_rfl) ?_ _
              have q5 := HQ5.out
              have qp5 := HONE5.out.cell
              have hni : ¬ (j : Int) < n2 := by have := HLN4.out; have := HLL.out; omega
              have n5 : (w4.setCell ⟨wa.heap.size, 0, none⟩ (.slice A2 n2 cc2)).cell? ⟨w2.heap.size, 0, none⟩ = some (.int .i64 (j : Int)) := cellFar (b := ⟨wa.heap.size, 0, none⟩) ((World.cell?_of_block (HROW.out _ (blk_lt NA3.out) (Nat.lt_of_lt_of_le (blk_lt NA3.out) HC2.out.size))).trans HNW.out) HNP.out _
              clear qp4 qf4 hH2 hH3
              gi_wp2
              refine region_in_round 7 (fun X => X.cell? ⟨wa.heap.size + 1, 0, none⟩ = some (.pointer (some ⟨wa.heap.size, 0, none⟩)) ∧ X.cell? ⟨wa.heap.size, 0, none⟩ = some (.slice A2 n2 cc2) ∧ X.cell? ⟨w2.heap.size, 0, none⟩ = some (.int .i64 (j : Int))) rfl (by kernel_rfl) (by kernel_rfl) (fun _ _ h => h) ⟨q5, qp5, n5⟩ fun hSS => ?_
              have HSC := hid (And.intro q5 (And.intro qp5 n5))
              have HNI := hid hni
              clear q5 qp5 n5 hni
              refine wpAnyH_take (i := 0) (v := ?_) rfl (by kernel_rfl) (by kernel_rfl) (by kernel_rfl) (fun _ _ _ h => h) (Or.inl ⟨by rfl, ?hz0b⟩) (by assumption) ?rz0b
              case hz0b => (intro X hSX; (try dsimp only at hSX); go_simp <;> with_reducible rfl)
              try simp only [Act.put, List.setIfInBounds_toArray, List.set_cons_zero, List.set_cons_succ]
              refine wpAnyH_take (i := 1) (v := ?_) rfl (by kernel_rfl) (by kernel_rfl) (by kernel_rfl) (fun _ _ _ h => h) (Or.inl ⟨by rfl, ?hz1b⟩) (by assumption) ?rz1b
              case hz1b => (intro X hSX; (try dsimp only at hSX); go_simp <;> with_reducible rfl)
              try simp only [Act.put, List.setIfInBounds_toArray, List.set_cons_zero, List.set_cons_succ]
              refine wpAnyH_take (i := 2) (v := ?_) rfl (by kernel_rfl) (by kernel_rfl) (by kernel_rfl) (fun _ _ _ h => h) (Or.inl ⟨by rfl, ?hz2b⟩) (by assumption) ?rz2b
              case hz2b => (intro X hSX; (try dsimp only at hSX); go_simp <;> with_reducible rfl)
              try simp only [Act.put, List.setIfInBounds_toArray, List.set_cons_zero, List.set_cons_succ]
              refine wpAnyH_take (i := 3) (v := ?_) rfl (by kernel_rfl) (by kernel_rfl) (by kernel_rfl) (fun _ _ _ h => h) (Or.inl ⟨by rfl, ?hz3b⟩) (by assumption) ?rz3b
              case hz3b => (intro X hSX; (try dsimp only at hSX); go_simp <;> with_reducible rfl)
              try simp only [Act.put, List.setIfInBounds_toArray, List.set_cons_zero, List.set_cons_succ]
              refine wpAnyH_take (i := 4) (v := ?_) rfl (by kernel_rfl) (by kernel_rfl) (by kernel_rfl) (fun _ _ _ h => h) (Or.inl ⟨by rfl, ?hz4b⟩) (by assumption) ?rz4b
              case hz4b => (intro X hSX; (try dsimp only at hSX); go_simp <;> with_reducible rfl)
              try simp only [Act.put, List.setIfInBounds_toArray, List.set_cons_zero, List.set_cons_succ]
              refine wpAnyH_take (i := 5) (v := ?_) rfl (by kernel_rfl) (by kernel_rfl) (by kernel_rfl) (fun _ _ _ h => h) (Or.inl ⟨by rfl, ?hz5b⟩) (by assumption) ?rz5b
              case hz5b => (intro X hSX; (try dsimp only at hSX); go_simp <;> with_reducible rfl)
              try simp only [Act.put, List.setIfInBounds_toArray, List.set_cons_zero, List.set_cons_succ]
              refine wpAnyH_ready (rs := [6]) (by kernel_rfl) (by simp) ?_
              refine AllReadyH.cons rfl (fun KK hKK => ?_) AllReadyH.nil
              have hni := HNI.out
              go_simp
              refine hKK.out _ _ HSC.out (fun hSS2 => ?_)
              clear hKK KK
              refine wpAnyH_done (by kernel_rfl) ?_ _
              gi_wp2
              dsimp only [postB]
              have hne : wa.heap.size ∉ ownFoot (.slice A2 n2 cc2) := fun h => by have := (HO4.out.lt _ h).1; have := HPL.out; omega
              have hW4 : W2.heap.size ≤ w4.heap.size := by have := HG4.out.size; simp at this; omega
              refine ⟨⟨by show _ ≤ (w4.setCell ⟨wa.heap.size, 0, none⟩ (.slice A2 n2 cc2)).heap.size; simp [World.setCell]; omega, fun b hb => ?_⟩, ?_, _, HONE5.out, HO4.out.keep fun b hb => Below.heap_setCell _ _ _ _ (fun e => hne (by rw [e] at hb; exact hb)), HKP.out, fun b hb hKb => ?_⟩
              · have hbl : b < W2.heap.size := Nat.lt_of_lt_of_le (hKW b hb) HW2.out
                have h1 : b ≠ wa.heap.size := fun e => HKP.out (by rw [← e]; exact hb)
                exact (Below.heap_setCell _ _ _ _ h1).trans ((HG4.out.block b (by simp; omega) fun e => HKK.out b (mem_ownFoot.2 e.symm) hb).trans (Below.heap_alloc W2.drew _ b hbl))
              · have hs3 := HC2.out.size
                refine ⟨HG4.out.os.trans HC2.out.os, HG4.out.tape.trans HC2.out.tape, HG4.out.output.trans HC2.out.output, by show _ ≤ (w4.setCell ⟨wa.heap.size, 0, none⟩ (.slice A2 n2 cc2)).heap.size; simp [World.setCell]; omega, fun k hk hn => ?_, fun k hk => .inl hk⟩
                exact (Below.heap_setCell _ _ _ _ (fun e => hn (by rw [e]; simp))).trans ((HROW.out k hk (by omega)).trans (HC2.out.block k hk hn))
              · rcases HF4.out b hb with h | h
                · exact HKK.out b h hKb
                · have h1 := hKW b hKb
                  have h2 := HW2.out
                  simp at h
                  omega
          case done =>
            rintro D Kd W ⟨hcw, v, hone, hown, _, hkr⟩ _ hKD hD hK
            have HCW := hid hcw
            have HSH := hid hK
            have HDD := hid hD
            have HBW3 := hid (below_step (below_step HS.out.since HBL.out) HB3.out)
            have hwaB : wB.heap.size ≤ wa.heap.size := HS.out.since.size
            have HRL : Hid (RList W (wa.heap.size :: ownFoot v) wa.heap.size L) := ⟨v, hone, hown.rows, rfl, fun b hb => (hown.lt b hb).2, fun h => by have := (hown.lt _ h).1; have := HPL.out; omega⟩
            have hal := HS.out.ta.lt
            have hbl := HS.out.tb.lt
            have HTA := hid (((HS.out.ta.below HBL.out).below HB3.out).chg hcw (by simp; omega) (fun b hb h => by simp at hb; subst hb; have := HS.out.ta.under _ h; omega))
            have HTB := hid (((HS.out.tb.below HBL.out).below HB3.out).chg hcw (by simp; omega) (fun b hb h => by simp at hb; subst hb; have := HS.out.tb.under _ h; omega))
            have HWW : Hid (Below wB.heap.size wB W) := (((Chg.of_below (F := []) HBW3.out).less (K := [wa.heap.size]) (fun k hk => .inr (by simp at hk; omega))).trans hcw).below (fun _ h => by cases h) (Nat.le_refl _)
            have rcW := chg_cell hcw RC3.out (fun h => by simp at h)
            have nW := chg_cell hcw NA3.out (fun h => HNP.out (by simpa using h))
            obtain ⟨Av, nv, cv, rfl⟩ := hown.rows.form
            have hnv : nv = j := by rw [hown.rows.cap.1]; exact HLL.out
            subst hnv
            have qpW := hone.cell
            have HSS : Hid (∀ X, Below W.heap.size W X → X.cell? ⟨wa.heap.size + 1, 0, none⟩ = some (.pointer (some ⟨wa.heap.size, 0, none⟩)) ∧ X.cell? ⟨wa.heap.size, 0, none⟩ = some (.slice Av nv cv) ∧ X.cell? ⟨w2.heap.size, 0, none⟩ = some (.int .i64 (nv : Int)) ∧ X.cell? ⟨w.heap.size, 0, none⟩ = some (.bool false) ∧ X.frozen? ⟨w.heap.size, 0, none⟩ = false) := fun X hb => by
              have hB := below_step HWW.out hb
              exact ⟨below_keep hb _ _ rcW, below_keep hb _ _ qpW, below_keep hb _ _ nW, below_keep hB _ _ C0.out, (hB.frozen (p := ⟨w.heap.size, 0, none⟩) (blk_lt C0.out)).trans F0.out⟩
            have HS3 : Hid (∀ X, Below W.heap.size W X → X.cell? ⟨wa.heap.size + 1, 0, none⟩ = some (.pointer (some ⟨wa.heap.size, 0, none⟩)) ∧ X.cell? ⟨wa.heap.size, 0, none⟩ = some (.slice Av nv cv) ∧ X.cell? ⟨w2.heap.size, 0, none⟩ = some (.int .i64 (nv : Int))) := fun X hb => ⟨(HSS.out X hb).1, (HSS.out X hb).2.1, (HSS.out X hb).2.2.1⟩
            have HST : Hid (∀ X v, Below W.heap.size W X → (X.setCell ⟨w.heap.size, 0, none⟩ v).cell? ⟨wa.heap.size + 1, 0, none⟩ = some (.pointer (some ⟨wa.heap.size, 0, none⟩)) ∧ (X.setCell ⟨w.heap.size, 0, none⟩ v).cell? ⟨wa.heap.size, 0, none⟩ = some (.slice Av nv cv) ∧ (X.setCell ⟨w.heap.size, 0, none⟩ v).cell? ⟨w2.heap.size, 0, none⟩ = some (.int .i64 (nv : Int))) := fun X v hb => by
              obtain ⟨g1, g2, g3⟩ := HS3.out X hb
              have hwl : w.heap.size < wB.heap.size := blk_lt C0.out
              have hw2 : wB.heap.size < w2.heap.size := Nat.lt_of_le_of_lt HA1.out HLT1.out
              exact ⟨cellFar (b := ⟨w.heap.size, 0, none⟩) g1 (by show wa.heap.size + 1 ≠ w.heap.size; omega) _, cellFar (b := ⟨w.heap.size, 0, none⟩) g2 (by show wa.heap.size ≠ w.heap.size; omega) _, cellFar (b := ⟨w.heap.size, 0, none⟩) g3 (by show w2.heap.size ≠ w.heap.size; omega) _⟩
            have D0 : Hid (Below W.heap.size W W.drew) := (Below.refl _ _).drew
            have HTAD := hid (HTA.out.below D0.out)
            have HTBD := hid (HTB.out.below D0.out)
            have HRLD : Hid (RList W.drew (wa.heap.size :: ownFoot (.slice Av nv cv)) wa.heap.size L) := HRL.out
            have HOO : Hid (2 ≤ o ∧ o ≤ 16) := ⟨h2, h16⟩
            have HJ100 : Hid (nv ≤ 100000) := by show _ ≤ _; omega
            obtain ⟨s0, s1, s2, s3, s4⟩ := HSS.out W (Below.refl _ _)
            clear hcw hone hown hkr hKD hD hK rcW nW qpW hal hbl
            go_wp2
            go_region_held3 (fun X => X.cell? ⟨wa.heap.size + 1, 0, none⟩ = some (.pointer (some ⟨wa.heap.size, 0, none⟩)) ∧ X.cell? ⟨wa.heap.size, 0, none⟩ = some (.slice Av nv cv) ∧ X.cell? ⟨w2.heap.size, 0, none⟩ = some (.int .i64 (nv : Int)))
              (first | exact ⟨s0, s1, s2⟩ | exact HS3.out _ B6.out | exact HST.out _ _ B6.out | exact HS3.out _ B5.out | exact HS3.out _ B4.out | exact HS3.out _ B3_.out | exact HS3.out _ B2_.out | exact HS3.out _ B1_.out)
              (first
                | (go_at_call 24; ((with_reducible refine (same_at HTBD.out HRLD.out (by omega)).mono ?_); rintro e x1 ⟨rfl, h1⟩; have B1_ := hid (below_step D0.out h1); have HTA1 := hid (HTAD.out.below h1); have HTB1 := hid (HTBD.out.below h1); clear h1))
                | (go_at_call 26; ((with_reducible refine (HTA1.out.shape (by omega)).mono ?_); rintro e x2 ⟨va, sa, rfl, hsh, hok, h2_⟩; have HSHA := hid hsh; have HOKA := hid hok; have B2_ := hid (below_step B1_.out h2_); have HTB2 := hid (HTB1.out.below h2_); clear hsh hok h2_))
                | (go_at_call 25; ((with_reducible refine (shaped_ok _ va sa o nv HSHA.out (HLL.out ▸ HOKA.out) HOO.out.1 HOO.out.2 HJ100.out).mono ?_); rintro e x3 ⟨rfl, h3⟩; have B3_ := hid (below_step B2_.out h3); have HTB3 := hid (HTB2.out.below h3); clear h3))
                | (go_at_call 26; ((with_reducible refine (HTB3.out.shape (by omega)).mono ?_); rintro e x4 ⟨vb, sb, rfl, hsh, hok, h4⟩; have HSHB := hid hsh; have HOKB := hid hok; have B4 := hid (below_step B3_.out h4); clear hsh hok h4))
                | (go_at_call 25; ((with_reducible refine (shaped_ok _ vb sb o nv HSHB.out (HLL.out ▸ HOKB.out) HOO.out.1 HOO.out.2 HJ100.out).mono ?_); rintro e x5 ⟨rfl, h5⟩; have B5 := hid (below_step B4.out h5); clear h5))
                | (go_at_call 18; ((with_reducible refine (awake_yes _).mono ?_); rintro e x6 ⟨rfl, h6⟩; have B6 := hid (below_step B5.out h6); have c6 := (HSS.out _ B6.out).2.2.2.1; have f6 := (HSS.out _ B6.out).2.2.2.2; clear h6)))
            clear s0 s1 s2 s3 s4
            go_wp2
            have HK' : Hid ((x6.setCell ⟨w.heap.size, 0, none⟩ (.bool true)).heap[D]? = some (.deferred (some []))) := (KeepsOthers.setCell x6 ⟨w.heap.size, 0, none⟩ (.bool true)).same D _ ((B6.out.block D (Array.getElem?_eq_some_iff.1 HSH.out).1).trans HSH.out) rfl
            have hc5 := cell_kept (World.cell?_setCell_same' x6 ⟨w.heap.size, 0, none⟩ (.bool true) (by rw [c6]; rfl)) (grownBy_putObj' _ D (.deferred none)) (fun r e => by cases e; exact ⟨_, HK'.out, rfl⟩)
            refine ⟨by simp, .inl ⟨_, _, rfl, run_takeDeferred HK'.out, ?_⟩⟩
            refine ⟨.bool true, ?_, rfl, ?_⟩
            · simp [results, Try.f10, go_sem, hc5]
            · exact ((below_step HB0.out (below_step HWW.out B6.out)).setCell (p := ⟨w.heap.size, 0, none⟩) (Nat.le_refl _) _).trans (belowK_b (w := w) (Nat.le_refl _) _ D _ _ (by have := HDD.out; have := HBW3.out.size; have := HB0.out.size; omega) HK'.out rfl rfl)
theorem treeany_any (w : World) (n : Int) (v : Value) (l : List (List Nat)) (f : Int) (hv : Elems 1 cT w v l) (hby : ∀ x ∈ l, Byt x) (hf1 : -9223372036854775808 ≤ f) (hf2 : f ≤ 9223372036854775807) :
    Calls Try.prog 10 #[.int .i64 n, v, .int .i64 f] w (Yes w) := by
  by_cases hn : n < 2 ∨ 16 < n
  · exact any_no w n f v l hv hn
  · obtain ⟨o, rfl⟩ : ∃ o : Nat, n = (o : Int) := ⟨n.toNat, by omega⟩
    by_cases hl : 100 < l.length
    · exact any_many w o f v l hv (by omega) (by omega) hl
    · rcases first_bad l l.length (Nat.le_refl _) with hg | ⟨i, x, _, hx, hg, hb⟩
      · rw [List.take_length] at hg
        exact any_ok w o f v l hv hby (by omega) (by omega) (by omega) hg hf1 hf2
      · exact any_bad w o f v l hv hby (by omega) (by omega) (by omega) i x hx hg hb
end Go.Proofs.Ytpckaglefmpkcaa
