import Derived.Test.YtjhgebfabjbbjaaT18
namespace Go.Proofs.Ytjhgebfabjbbjaa
open Go.RowKit

set_option maxHeartbeats 1600000 in
set_option maxRecDepth 100000 in
theorem one_t_form (w : World) (v : Value) (n : Int) (xs : List Nat) (hb : Byt xs) (hno : NoGr xs) (hs : Sl .u8 w v xs) (hl : xs.length ≤ 100) (hn0 : n ≠ 0) (hn1 : n ≠ 1) :
    Calls Try.prog 6 #[v, .int .i64 n] w (Yes w) := by
  have HS := hid hs
  obtain ⟨A, cap, rfl, hlc, hcm, _⟩ := hs
  obtain ⟨len, HL⟩ : ∃ len, Hid (len = xs.length) := ⟨_, rfl⟩
  rw [← HL.out] at HS hlc hl ⊢
  unfold maxLen at hcm
  obtain ⟨r, Hr⟩ : ∃ r, Hid (r = (xs).length) := ⟨_, rfl⟩
  obtain ⟨G, HG⟩ : ∃ r, Hid (r = (([] : List Nat)).length) := ⟨_, rfl⟩
  have HYZ : Hid (xs = ([] : List Nat) ++ xs) := by show _ = _; rfl
  have HLE : Hid (len = G + r) := by
    show _ = _
    have h := congrArg List.length HYZ.out
    have h0 := @List.length_append Nat (([] : List Nat)) (xs)
    have h1 := HL.out; have h2 := Hr.out; have h3 := HG.out
    omega
  have HEQ : Hid (eqB (([] : List Nat)) ((xs).take G) = true) := by show _ = _; rw [HYZ.out, HG.out]; exact eqB_take _ _
  have hk : (len : Int) - (r : Int) = (G : Int) := by have := HLE.out; omega
  have hwk : IntKind.i64.wrap ((len : Int) - (r : Int)) = (G : Int) := by rw [hk]; exact IntWalk.i64_in _ (by have := HLE.out; omega)
  have hwG : IntKind.i64.wrap (G : Int) = (G : Int) := IntWalk.i64_in _ (by have := HLE.out; omega)
  have hk0 : 0 ≤ (G : Int) := by omega
  have hk1 : (G : Int) ≤ (cap : Int) := by have := HLE.out; omega
  have hr0 : 0 ≤ (r : Int) := by omega
  have hr1 : (r : Int) ≤ len := by have := HLE.out; omega
  have hlt : (len : Int) ≤ r := by have := HLE.out; have h1 := HG.out; simp at h1; omega
  have HNEW := fun (W : World) => hid (wr_new W)
  go_enter Try.func6, Try.ntmps6
  go_wp2_with fail
  refine (read_new w _ _ HS.out).mono ?_
  rintro e w1 ⟨g, rfl, hR, hc1⟩
  have HR1 := hid (hR.out ((Chg.refl [] w1).alloc (.cells #[.slice none 0 0] 28)) (Apart.nilL _))
  have HW1 := hid (wr_new w1)
  have HA1 : Hid (Apart [g] [w1.heap.size]) := by
    intro k h1 h2
    have := hR.lt k h1
    simp at h2; omega
  have HC1 : Hid (Chg [] w (w1.alloc (.cells #[.slice none 0 0] 28)) (w1.heap.size :: [g])) := hc1.add _
  clear hR hc1 HNEW
  go_wp2_with fail
  refine (rtext_form _ g 100 xs HR1.out hb hno (by have := HL.out; (try simp at this); omega)).mono ?_
  rintro e w2 ⟨rfl, hR2, hc2⟩
  have HW2 := hid (HW1.out.out hc2 HA1.out)
  have HC2 := hid (HC1.out.trans (hc2.wideL [w1.heap.size]))
  have HA2 := hid (HA1.out.chg hc2 HW1.out.lt)
  have HR2 := hid hR2
  clear hR2 hc2
  have HW3 := HW2
  have HC3 := HC2
  have HR3 := HR2
  go_wp2_with fail
  refine (rleft _ g _ HR3.out).mono ?_
  rw [← Hr.out]
  rintro e w' ⟨rfl, rfl⟩
  have HK := hid (Sl.take_ (n := G) (HS.out.below HC3.out.nil_below) (by have := HLE.out; have := HL.out; omega))
  have HBW := hid HC3.out.nil_below
  have hYl : (([] : List Nat)).length ≤ 100000000000000 := by have := HG.out; have := HLE.out; omega
  obtain ⟨Yv, HYv⟩ : ∃ y, Hid (y = ([] : List Nat)) := ⟨_, rfl⟩
  have HW4 : Hid (Wr w2 [w1.heap.size] (.pointer (some ⟨w1.heap.size, 0, none⟩)) Yv) := by rw [HYv.out]; exact HW3.out
  have HYL : Hid (Yv.length ≤ 100000000000000) := by rw [HYv.out]; exact hYl
  obtain ⟨Kv, HKv⟩ : ∃ y, Hid (y = (xs).take G) := ⟨_, rfl⟩
  have HEQ' : Hid (eqB Yv Kv = true) := by rw [HYv.out, HKv.out]; exact HEQ.out
  rw [← HKv.out] at HK
  have HWD : Hid (Wr w2.drew [w1.heap.size] (.pointer (some ⟨w1.heap.size, 0, none⟩)) Yv) := HW4.out.keep (w' := w2.drew) (fun _ _ => rfl)
  have HKD : Hid (Sl .u8 w2.drew (.slice A G cap) Kv) := HK.out.drew
  clear hYl
  go_wp2_with fail
  go_region_held3 (fun _ => True) (trivial)
    (first
      | (go_at_call 18; ((with_reducible refine (wbytes_fresh _ _ _ Yv HWD.out HYL.out).mono ?_); rintro e w5 ⟨u, rfl, hu, hc5⟩; have HU := hid hu.sl; have HB5 := hid hc5.nil_below; clear hu hc5))
      | (go_at_call 17; ((with_reducible refine (bytes_any _ _ _ Yv Kv HU.out (HKD.out.below HB5.out)).mono ?_); rw [HEQ'.out]; rintro e w6 ⟨rfl, hb6⟩; have HB6 := hid hb6; clear hb6))
      | (go_at_call 10; ((with_reducible refine (awake_any _).mono ?_); rintro e w7 ⟨rfl, hb7⟩)))
  go_wp2
  go_ret
  exact ⟨rfl, below_step (below_step (below_step HBW.out.drew HB5.out) HB6.out) hb7⟩

set_option maxHeartbeats 1600000 in
set_option maxRecDepth 100000 in
theorem one_t_range (w : World) (v : Value) (n : Int) (N : Nat) (rest : List Nat) (hb : Byt rest) (hN : 9223372036854775808 ≤ N) (hM : N < 18446744073709551616) (hs : Sl .u8 w v (gr N ++ rest)) (hl : (gr N ++ rest).length ≤ 100) (hn0 : n ≠ 0) (hn1 : n ≠ 1) :
    Calls Try.prog 6 #[v, .int .i64 n] w (Yes w) := by
  have HS := hid hs
  obtain ⟨A, cap, rfl, hlc, hcm, _⟩ := hs
  obtain ⟨len, HL⟩ : ∃ len, Hid (len = (gr N ++ rest).length) := ⟨_, rfl⟩
  rw [← HL.out] at HS hlc hl ⊢
  unfold maxLen at hcm
  obtain ⟨r, Hr⟩ : ∃ r, Hid (r = ((gr N ++ rest)).length) := ⟨_, rfl⟩
  obtain ⟨G, HG⟩ : ∃ r, Hid (r = (([] : List Nat)).length) := ⟨_, rfl⟩
  have HYZ : Hid ((gr N ++ rest) = ([] : List Nat) ++ (gr N ++ rest)) := by show _ = _; rfl
  have HLE : Hid (len = G + r) := by
    show _ = _
    have h := congrArg List.length HYZ.out
    have h0 := @List.length_append Nat (([] : List Nat)) ((gr N ++ rest))
    have h1 := HL.out; have h2 := Hr.out; have h3 := HG.out
    omega
  have HEQ : Hid (eqB (([] : List Nat)) (((gr N ++ rest)).take G) = true) := by show _ = _; rw [HYZ.out, HG.out]; exact eqB_take _ _
  have hk : (len : Int) - (r : Int) = (G : Int) := by have := HLE.out; omega
  have hwk : IntKind.i64.wrap ((len : Int) - (r : Int)) = (G : Int) := by rw [hk]; exact IntWalk.i64_in _ (by have := HLE.out; omega)
  have hwG : IntKind.i64.wrap (G : Int) = (G : Int) := IntWalk.i64_in _ (by have := HLE.out; omega)
  have hk0 : 0 ≤ (G : Int) := by omega
  have hk1 : (G : Int) ≤ (cap : Int) := by have := HLE.out; omega
  have hr0 : 0 ≤ (r : Int) := by omega
  have hr1 : (r : Int) ≤ len := by have := HLE.out; omega
  have hlt : (len : Int) ≤ r := by have := HLE.out; have h1 := HG.out; simp at h1; omega
  have HNEW := fun (W : World) => hid (wr_new W)
  go_enter Try.func6, Try.ntmps6
  go_wp2_with fail
  refine (read_new w _ _ HS.out).mono ?_
  rintro e w1 ⟨g, rfl, hR, hc1⟩
  have HR1 := hid (hR.out ((Chg.refl [] w1).alloc (.cells #[.slice none 0 0] 28)) (Apart.nilL _))
  have HW1 := hid (wr_new w1)
  have HA1 : Hid (Apart [g] [w1.heap.size]) := by
    intro k h1 h2
    have := hR.lt k h1
    simp at h2; omega
  have HC1 : Hid (Chg [] w (w1.alloc (.cells #[.slice none 0 0] 28)) (w1.heap.size :: [g])) := hc1.add _
  clear hR hc1 HNEW
  go_wp2_with fail
  refine (rtext_range _ g 100 N rest HR1.out hb hN hM (by have := HL.out; (try simp at this); omega)).mono ?_
  rintro e w2 ⟨rfl, hR2, hc2⟩
  have HW2 := hid (HW1.out.out hc2 HA1.out)
  have HC2 := hid (HC1.out.trans (hc2.wideL [w1.heap.size]))
  have HA2 := hid (HA1.out.chg hc2 HW1.out.lt)
  have HR2 := hid hR2
  clear hR2 hc2
  have HW3 := HW2
  have HC3 := HC2
  have HR3 := HR2
  go_wp2_with fail
  refine (rleft _ g _ HR3.out).mono ?_
  rw [← Hr.out]
  rintro e w' ⟨rfl, rfl⟩
  have HK := hid (Sl.take_ (n := G) (HS.out.below HC3.out.nil_below) (by have := HLE.out; have := HL.out; omega))
  have HBW := hid HC3.out.nil_below
  have hYl : (([] : List Nat)).length ≤ 100000000000000 := by have := HG.out; have := HLE.out; omega
  obtain ⟨Yv, HYv⟩ : ∃ y, Hid (y = ([] : List Nat)) := ⟨_, rfl⟩
  have HW4 : Hid (Wr w2 [w1.heap.size] (.pointer (some ⟨w1.heap.size, 0, none⟩)) Yv) := by rw [HYv.out]; exact HW3.out
  have HYL : Hid (Yv.length ≤ 100000000000000) := by rw [HYv.out]; exact hYl
  obtain ⟨Kv, HKv⟩ : ∃ y, Hid (y = ((gr N ++ rest)).take G) := ⟨_, rfl⟩
  have HEQ' : Hid (eqB Yv Kv = true) := by rw [HYv.out, HKv.out]; exact HEQ.out
  rw [← HKv.out] at HK
  have HWD : Hid (Wr w2.drew [w1.heap.size] (.pointer (some ⟨w1.heap.size, 0, none⟩)) Yv) := HW4.out.keep (w' := w2.drew) (fun _ _ => rfl)
  have HKD : Hid (Sl .u8 w2.drew (.slice A G cap) Kv) := HK.out.drew
  clear hYl
  go_wp2_with fail
  go_region_held3 (fun _ => True) (trivial)
    (first
      | (go_at_call 18; ((with_reducible refine (wbytes_fresh _ _ _ Yv HWD.out HYL.out).mono ?_); rintro e w5 ⟨u, rfl, hu, hc5⟩; have HU := hid hu.sl; have HB5 := hid hc5.nil_below; clear hu hc5))
      | (go_at_call 17; ((with_reducible refine (bytes_any _ _ _ Yv Kv HU.out (HKD.out.below HB5.out)).mono ?_); rw [HEQ'.out]; rintro e w6 ⟨rfl, hb6⟩; have HB6 := hid hb6; clear hb6))
      | (go_at_call 10; ((with_reducible refine (awake_any _).mono ?_); rintro e w7 ⟨rfl, hb7⟩)))
  go_wp2
  go_ret
  exact ⟨rfl, below_step (below_step (below_step HBW.out.drew HB5.out) HB6.out) hb7⟩

set_option maxHeartbeats 1600000 in
set_option maxRecDepth 100000 in
theorem one_t_size (w : World) (v : Value) (n : Int) (N : Nat) (rest : List Nat) (hb : Byt rest) (hN : N < 9223372036854775808) (hm : (100 : Int) < N) (hs : Sl .u8 w v (gr N ++ rest)) (hl : (gr N ++ rest).length ≤ 100) (hn0 : n ≠ 0) (hn1 : n ≠ 1) :
    Calls Try.prog 6 #[v, .int .i64 n] w (Yes w) := by
  have HS := hid hs
  obtain ⟨A, cap, rfl, hlc, hcm, _⟩ := hs
  obtain ⟨len, HL⟩ : ∃ len, Hid (len = (gr N ++ rest).length) := ⟨_, rfl⟩
  rw [← HL.out] at HS hlc hl ⊢
  unfold maxLen at hcm
  obtain ⟨r, Hr⟩ : ∃ r, Hid (r = ((gr N ++ rest)).length) := ⟨_, rfl⟩
  obtain ⟨G, HG⟩ : ∃ r, Hid (r = (([] : List Nat)).length) := ⟨_, rfl⟩
  have HYZ : Hid ((gr N ++ rest) = ([] : List Nat) ++ (gr N ++ rest)) := by show _ = _; rfl
  have HLE : Hid (len = G + r) := by
    show _ = _
    have h := congrArg List.length HYZ.out
    have h0 := @List.length_append Nat (([] : List Nat)) ((gr N ++ rest))
    have h1 := HL.out; have h2 := Hr.out; have h3 := HG.out
    omega
  have HEQ : Hid (eqB (([] : List Nat)) (((gr N ++ rest)).take G) = true) := by show _ = _; rw [HYZ.out, HG.out]; exact eqB_take _ _
  have hk : (len : Int) - (r : Int) = (G : Int) := by have := HLE.out; omega
  have hwk : IntKind.i64.wrap ((len : Int) - (r : Int)) = (G : Int) := by rw [hk]; exact IntWalk.i64_in _ (by have := HLE.out; omega)
  have hwG : IntKind.i64.wrap (G : Int) = (G : Int) := IntWalk.i64_in _ (by have := HLE.out; omega)
  have hk0 : 0 ≤ (G : Int) := by omega
  have hk1 : (G : Int) ≤ (cap : Int) := by have := HLE.out; omega
  have hr0 : 0 ≤ (r : Int) := by omega
  have hr1 : (r : Int) ≤ len := by have := HLE.out; omega
  have hlt : (len : Int) ≤ r := by have := HLE.out; have h1 := HG.out; simp at h1; omega
  have HNEW := fun (W : World) => hid (wr_new W)
  go_enter Try.func6, Try.ntmps6
  go_wp2_with fail
  refine (read_new w _ _ HS.out).mono ?_
  rintro e w1 ⟨g, rfl, hR, hc1⟩
  have HR1 := hid (hR.out ((Chg.refl [] w1).alloc (.cells #[.slice none 0 0] 28)) (Apart.nilL _))
  have HW1 := hid (wr_new w1)
  have HA1 : Hid (Apart [g] [w1.heap.size]) := by
    intro k h1 h2
    have := hR.lt k h1
    simp at h2; omega
  have HC1 : Hid (Chg [] w (w1.alloc (.cells #[.slice none 0 0] 28)) (w1.heap.size :: [g])) := hc1.add _
  clear hR hc1 HNEW
  go_wp2_with fail
  refine (rtext_size _ g 100 N rest HR1.out hb hN hm (by have := HL.out; (try simp at this); omega)).mono ?_
  rintro e w2 ⟨rfl, hR2, hc2⟩
  have HW2 := hid (HW1.out.out hc2 HA1.out)
  have HC2 := hid (HC1.out.trans (hc2.wideL [w1.heap.size]))
  have HA2 := hid (HA1.out.chg hc2 HW1.out.lt)
  have HR2 := hid hR2
  clear hR2 hc2
  have HW3 := HW2
  have HC3 := HC2
  have HR3 := HR2
  go_wp2_with fail
  refine (rleft _ g _ HR3.out).mono ?_
  rw [← Hr.out]
  rintro e w' ⟨rfl, rfl⟩
  have HK := hid (Sl.take_ (n := G) (HS.out.below HC3.out.nil_below) (by have := HLE.out; have := HL.out; omega))
  have HBW := hid HC3.out.nil_below
  have hYl : (([] : List Nat)).length ≤ 100000000000000 := by have := HG.out; have := HLE.out; omega
  obtain ⟨Yv, HYv⟩ : ∃ y, Hid (y = ([] : List Nat)) := ⟨_, rfl⟩
  have HW4 : Hid (Wr w2 [w1.heap.size] (.pointer (some ⟨w1.heap.size, 0, none⟩)) Yv) := by rw [HYv.out]; exact HW3.out
  have HYL : Hid (Yv.length ≤ 100000000000000) := by rw [HYv.out]; exact hYl
  obtain ⟨Kv, HKv⟩ : ∃ y, Hid (y = ((gr N ++ rest)).take G) := ⟨_, rfl⟩
  have HEQ' : Hid (eqB Yv Kv = true) := by rw [HYv.out, HKv.out]; exact HEQ.out
  rw [← HKv.out] at HK
  have HWD : Hid (Wr w2.drew [w1.heap.size] (.pointer (some ⟨w1.heap.size, 0, none⟩)) Yv) := HW4.out.keep (w' := w2.drew) (fun _ _ => rfl)
  have HKD : Hid (Sl .u8 w2.drew (.slice A G cap) Kv) := HK.out.drew
  clear hYl
  go_wp2_with fail
  go_region_held3 (fun _ => True) (trivial)
    (first
      | (go_at_call 18; ((with_reducible refine (wbytes_fresh _ _ _ Yv HWD.out HYL.out).mono ?_); rintro e w5 ⟨u, rfl, hu, hc5⟩; have HU := hid hu.sl; have HB5 := hid hc5.nil_below; clear hu hc5))
      | (go_at_call 17; ((with_reducible refine (bytes_any _ _ _ Yv Kv HU.out (HKD.out.below HB5.out)).mono ?_); rw [HEQ'.out]; rintro e w6 ⟨rfl, hb6⟩; have HB6 := hid hb6; clear hb6))
      | (go_at_call 10; ((with_reducible refine (awake_any _).mono ?_); rintro e w7 ⟨rfl, hb7⟩)))
  go_wp2
  go_ret
  exact ⟨rfl, below_step (below_step (below_step HBW.out.drew HB5.out) HB6.out) hb7⟩

set_option maxHeartbeats 1600000 in
set_option maxRecDepth 100000 in
theorem one_t_short (w : World) (v : Value) (n : Int) (N : Nat) (rest : List Nat) (hb : Byt rest) (hN : N < 9223372036854775808) (hm : (N : Int) ≤ 100) (hsh : rest.length < N) (hs : Sl .u8 w v (gr N ++ rest)) (hl : (gr N ++ rest).length ≤ 100) (hn0 : n ≠ 0) (hn1 : n ≠ 1) :
    Calls Try.prog 6 #[v, .int .i64 n] w (Yes w) := by
  have HS := hid hs
  obtain ⟨A, cap, rfl, hlc, hcm, _⟩ := hs
  obtain ⟨len, HL⟩ : ∃ len, Hid (len = (gr N ++ rest).length) := ⟨_, rfl⟩
  rw [← HL.out] at HS hlc hl ⊢
  unfold maxLen at hcm
  obtain ⟨r, Hr⟩ : ∃ r, Hid (r = ((gr N ++ rest)).length) := ⟨_, rfl⟩
  obtain ⟨G, HG⟩ : ∃ r, Hid (r = (([] : List Nat)).length) := ⟨_, rfl⟩
  have HYZ : Hid ((gr N ++ rest) = ([] : List Nat) ++ (gr N ++ rest)) := by show _ = _; rfl
  have HLE : Hid (len = G + r) := by
    show _ = _
    have h := congrArg List.length HYZ.out
    have h0 := @List.length_append Nat (([] : List Nat)) ((gr N ++ rest))
    have h1 := HL.out; have h2 := Hr.out; have h3 := HG.out
    omega
  have HEQ : Hid (eqB (([] : List Nat)) (((gr N ++ rest)).take G) = true) := by show _ = _; rw [HYZ.out, HG.out]; exact eqB_take _ _
  have hk : (len : Int) - (r : Int) = (G : Int) := by have := HLE.out; omega
  have hwk : IntKind.i64.wrap ((len : Int) - (r : Int)) = (G : Int) := by rw [hk]; exact IntWalk.i64_in _ (by have := HLE.out; omega)
  have hwG : IntKind.i64.wrap (G : Int) = (G : Int) := IntWalk.i64_in _ (by have := HLE.out; omega)
  have hk0 : 0 ≤ (G : Int) := by omega
  have hk1 : (G : Int) ≤ (cap : Int) := by have := HLE.out; omega
  have hr0 : 0 ≤ (r : Int) := by omega
  have hr1 : (r : Int) ≤ len := by have := HLE.out; omega
  have hlt : (len : Int) ≤ r := by have := HLE.out; have h1 := HG.out; simp at h1; omega
  have HNEW := fun (W : World) => hid (wr_new W)
  go_enter Try.func6, Try.ntmps6
  go_wp2_with fail
  refine (read_new w _ _ HS.out).mono ?_
  rintro e w1 ⟨g, rfl, hR, hc1⟩
  have HR1 := hid (hR.out ((Chg.refl [] w1).alloc (.cells #[.slice none 0 0] 28)) (Apart.nilL _))
  have HW1 := hid (wr_new w1)
  have HA1 : Hid (Apart [g] [w1.heap.size]) := by
    intro k h1 h2
    have := hR.lt k h1
    simp at h2; omega
  have HC1 : Hid (Chg [] w (w1.alloc (.cells #[.slice none 0 0] 28)) (w1.heap.size :: [g])) := hc1.add _
  clear hR hc1 HNEW
  go_wp2_with fail
  refine (rtext_short _ g 100 N rest HR1.out hb hN hm hsh (by have := HL.out; (try simp at this); omega)).mono ?_
  rintro e w2 ⟨rfl, hR2, hc2⟩
  have HW2 := hid (HW1.out.out hc2 HA1.out)
  have HC2 := hid (HC1.out.trans (hc2.wideL [w1.heap.size]))
  have HA2 := hid (HA1.out.chg hc2 HW1.out.lt)
  have HR2 := hid hR2
  clear hR2 hc2
  have HW3 := HW2
  have HC3 := HC2
  have HR3 := HR2
  go_wp2_with fail
  refine (rleft _ g _ HR3.out).mono ?_
  rw [← Hr.out]
  rintro e w' ⟨rfl, rfl⟩
  have HK := hid (Sl.take_ (n := G) (HS.out.below HC3.out.nil_below) (by have := HLE.out; have := HL.out; omega))
  have HBW := hid HC3.out.nil_below
  have hYl : (([] : List Nat)).length ≤ 100000000000000 := by have := HG.out; have := HLE.out; omega
  obtain ⟨Yv, HYv⟩ : ∃ y, Hid (y = ([] : List Nat)) := ⟨_, rfl⟩
  have HW4 : Hid (Wr w2 [w1.heap.size] (.pointer (some ⟨w1.heap.size, 0, none⟩)) Yv) := by rw [HYv.out]; exact HW3.out
  have HYL : Hid (Yv.length ≤ 100000000000000) := by rw [HYv.out]; exact hYl
  obtain ⟨Kv, HKv⟩ : ∃ y, Hid (y = ((gr N ++ rest)).take G) := ⟨_, rfl⟩
  have HEQ' : Hid (eqB Yv Kv = true) := by rw [HYv.out, HKv.out]; exact HEQ.out
  rw [← HKv.out] at HK
  have HWD : Hid (Wr w2.drew [w1.heap.size] (.pointer (some ⟨w1.heap.size, 0, none⟩)) Yv) := HW4.out.keep (w' := w2.drew) (fun _ _ => rfl)
  have HKD : Hid (Sl .u8 w2.drew (.slice A G cap) Kv) := HK.out.drew
  clear hYl
  go_wp2_with fail
  go_region_held3 (fun _ => True) (trivial)
    (first
      | (go_at_call 18; ((with_reducible refine (wbytes_fresh _ _ _ Yv HWD.out HYL.out).mono ?_); rintro e w5 ⟨u, rfl, hu, hc5⟩; have HU := hid hu.sl; have HB5 := hid hc5.nil_below; clear hu hc5))
      | (go_at_call 17; ((with_reducible refine (bytes_any _ _ _ Yv Kv HU.out (HKD.out.below HB5.out)).mono ?_); rw [HEQ'.out]; rintro e w6 ⟨rfl, hb6⟩; have HB6 := hid hb6; clear hb6))
      | (go_at_call 10; ((with_reducible refine (awake_any _).mono ?_); rintro e w7 ⟨rfl, hb7⟩)))
  go_wp2
  go_ret
  exact ⟨rfl, below_step (below_step (below_step HBW.out.drew HB5.out) HB6.out) hb7⟩

set_option maxHeartbeats 1600000 in
set_option maxRecDepth 100000 in
theorem one_t_ok (w : World) (v : Value) (n : Int) (N : Nat) (rest : List Nat) (hb : Byt rest) (hN : N < 9223372036854775808) (hm : (N : Int) ≤ 100) (hsh : N ≤ rest.length) (hs : Sl .u8 w v (gr N ++ rest)) (hl : (gr N ++ rest).length ≤ 100) (hn0 : n ≠ 0) (hn1 : n ≠ 1) :
    Calls Try.prog 6 #[v, .int .i64 n] w (Yes w) := by
  have HS := hid hs
  obtain ⟨A, cap, rfl, hlc, hcm, _⟩ := hs
  obtain ⟨len, HL⟩ : ∃ len, Hid (len = (gr N ++ rest).length) := ⟨_, rfl⟩
  rw [← HL.out] at HS hlc hl ⊢
  unfold maxLen at hcm
  obtain ⟨r, Hr⟩ : ∃ r, Hid (r = (rest.drop N).length) := ⟨_, rfl⟩
  obtain ⟨G, HG⟩ : ∃ r, Hid (r = (tx (rest.take N)).length) := ⟨_, rfl⟩
  have HYZ : Hid ((gr N ++ rest) = tx (rest.take N) ++ rest.drop N) := by show _ = _; unfold tx; rw [List.length_take, Nat.min_eq_left hsh, List.append_assoc, List.take_append_drop]
  have HLE : Hid (len = G + r) := by
    show _ = _
    have h := congrArg List.length HYZ.out
    have h0 := @List.length_append Nat (tx (rest.take N)) (rest.drop N)
    have h1 := HL.out; have h2 := Hr.out; have h3 := HG.out
    omega
  have HEQ : Hid (eqB (tx (rest.take N)) (((gr N ++ rest)).take G) = true) := by show _ = _; rw [HYZ.out, HG.out]; exact eqB_take _ _
  have hk : (len : Int) - (r : Int) = (G : Int) := by have := HLE.out; omega
  have hwk : IntKind.i64.wrap ((len : Int) - (r : Int)) = (G : Int) := by rw [hk]; exact IntWalk.i64_in _ (by have := HLE.out; omega)
  have hwG : IntKind.i64.wrap (G : Int) = (G : Int) := IntWalk.i64_in _ (by have := HLE.out; omega)
  have hk0 : 0 ≤ (G : Int) := by omega
  have hk1 : (G : Int) ≤ (cap : Int) := by have := HLE.out; omega
  have hr0 : 0 ≤ (r : Int) := by omega
  have hr1 : (r : Int) ≤ len := by have := HLE.out; omega
  have hlt : (r : Int) < len := by have := HLE.out; have h1 := HG.out; have : 1 ≤ G := (by rw [h1]; (try simp only [tx, List.length_append]); have := gr_pos (rest.take N).length; omega); omega
  have HNEW := fun (W : World) => hid (wr_new W)
  go_enter Try.func6, Try.ntmps6
  go_wp2_with fail
  refine (read_new w _ _ HS.out).mono ?_
  rintro e w1 ⟨g, rfl, hR, hc1⟩
  have HR1 := hid (hR.out ((Chg.refl [] w1).alloc (.cells #[.slice none 0 0] 28)) (Apart.nilL _))
  have HW1 := hid (wr_new w1)
  have HA1 : Hid (Apart [g] [w1.heap.size]) := by
    intro k h1 h2
    have := hR.lt k h1
    simp at h2; omega
  have HC1 : Hid (Chg [] w (w1.alloc (.cells #[.slice none 0 0] 28)) (w1.heap.size :: [g])) := hc1.add _
  clear hR hc1 HNEW
  go_wp2_with fail
  refine (rtext_ok _ g 100 N rest HR1.out hb hN hm hsh (by have := HL.out; (try simp at this); omega)).mono ?_
  rintro e w2 ⟨rfl, hR2, hc2⟩
  have HW2 := hid (HW1.out.out hc2 HA1.out)
  have HC2 := hid (HC1.out.trans (hc2.wideL [w1.heap.size]))
  have HA2 := hid (HA1.out.chg hc2 HW1.out.lt)
  have HR2 := hid hR2
  clear hR2 hc2
  go_wp2_with fail
  refine (wtext _ _ _ [] (rest.take N) HW2.out (hb.take N) (by rw [List.length_take]; omega) (by simp)).mono ?_
  rintro e w3 ⟨rfl, F3, hW3, hc3⟩
  have HW3 : Hid (Wr w3 F3 (.pointer (some ⟨w1.heap.size, 0, none⟩)) (tx (rest.take N))) := by have h := hW3; exact h
  have HC3 := hid (HC2.out.trans (hc3.wide [g]))
  have HR3 := hid (HR2.out.out hc3 HA2.out.symm)
  clear hW3 hc3
  go_wp2_with fail
  refine (rleft _ g _ HR3.out).mono ?_
  rw [← Hr.out]
  rintro e w' ⟨rfl, rfl⟩
  have HK := hid (Sl.take_ (n := G) (HS.out.below HC3.out.nil_below) (by have := HLE.out; have := HL.out; omega))
  have HBW := hid HC3.out.nil_below
  have hYl : (tx (rest.take N)).length ≤ 100000000000000 := by have := HG.out; have := HLE.out; omega
  obtain ⟨Yv, HYv⟩ : ∃ y, Hid (y = tx (rest.take N)) := ⟨_, rfl⟩
  have HW4 : Hid (Wr w3 F3 (.pointer (some ⟨w1.heap.size, 0, none⟩)) Yv) := by rw [HYv.out]; exact HW3.out
  have HYL : Hid (Yv.length ≤ 100000000000000) := by rw [HYv.out]; exact hYl
  obtain ⟨Kv, HKv⟩ : ∃ y, Hid (y = ((gr N ++ rest)).take G) := ⟨_, rfl⟩
  have HEQ' : Hid (eqB Yv Kv = true) := by rw [HYv.out, HKv.out]; exact HEQ.out
  rw [← HKv.out] at HK
  have HWD : Hid (Wr w3.drew F3 (.pointer (some ⟨w1.heap.size, 0, none⟩)) Yv) := HW4.out.keep (w' := w3.drew) (fun _ _ => rfl)
  have HKD : Hid (Sl .u8 w3.drew (.slice A G cap) Kv) := HK.out.drew
  clear hYl
  go_wp2_with fail
  go_region_held3 (fun _ => True) (trivial)
    (first
      | (go_at_call 18; ((with_reducible refine (wbytes_fresh _ _ _ Yv HWD.out HYL.out).mono ?_); rintro e w5 ⟨u, rfl, hu, hc5⟩; have HU := hid hu.sl; have HB5 := hid hc5.nil_below; clear hu hc5))
      | (go_at_call 17; ((with_reducible refine (bytes_any _ _ _ Yv Kv HU.out (HKD.out.below HB5.out)).mono ?_); rw [HEQ'.out]; rintro e w6 ⟨rfl, hb6⟩; have HB6 := hid hb6; clear hb6))
      | (go_at_call 10; ((with_reducible refine (awake_any _).mono ?_); rintro e w7 ⟨rfl, hb7⟩)))
  go_wp2
  go_ret
  exact ⟨rfl, below_step (below_step (below_step HBW.out.drew HB5.out) HB6.out) hb7⟩

end Go.Proofs.Ytjhgebfabjbbjaa
