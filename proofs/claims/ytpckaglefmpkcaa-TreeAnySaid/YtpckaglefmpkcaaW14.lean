/- TreeAny: the ways that end early. -/
import Derived.Test.YtpckaglefmpkcaaW13
import Derived.Test.YtpckaglefmpkcaaW7
namespace Go.Proofs.Ytpckaglefmpkcaa
open Go.RowKit Go.Shelf
set_option maxRecDepth 100000

/-- The cells of the law's own: its result's, and how many keys there are. -/
theorem anyres (w : World) : (w.alloc (.cells #[.bool false] 4)).cell? ⟨w.heap.size, 0, none⟩ = some (.bool false) ∧ (w.alloc (.cells #[.bool false] 4)).frozen? ⟨w.heap.size, 0, none⟩ = false ∧ Below w.heap.size w (w.alloc (.cells #[.bool false] 4)) := new_cell w _ _
theorem any_no (w : World) (n r : Int) (v : Value) (l : List (List Nat)) (hv : Elems 1 cT w v l) (hn : n < 2 ∨ 16 < n) : Calls Try.prog 10 #[.int .i64 n, v, .int .i64 r] w (Yes w) := by
  obtain ⟨A, cap, rfl⟩ := hv.slice
  obtain ⟨c0, f0, hb0⟩ := anyres w
  have C0 := hid c0
  have F0 := hid f0
  have HB0 := hid hb0
  clear c0 f0 hb0 hv
  go_enter Try.func10, Try.ntmps10
  go_wp2_with fail
  refine (tree_new_no _ n hn).mono ?_
  rintro e w1 ⟨rfl, hb1⟩
  have HB1 := hid hb1
  clear hb1
  go_wp2_with fail
  refine (tree_new_no _ n hn).mono ?_
  rintro e w2 ⟨rfl, hb2⟩
  have HB2 := hid ((below_step HB1.out hb2).alloc (Nat.le_trans HB1.out.size hb2.size) (.cells #[.int .i64 (l.length : Int)] 3))
  clear hb2
  go_wp2_with fail
  refine (awake_yes _).mono ?_
  rintro e wz ⟨rfl, hbz⟩
  have HBZ := hid (below_step HB2.out hbz)
  have c1 := below_keep HBZ.out _ _ C0.out
  have f1 := (HBZ.out.frozen (p := ⟨w.heap.size, 0, none⟩) (blk_lt C0.out)).trans F0.out
  clear hbz
  go_wp2
  have c2 := World.cell?_setCell_same' wz ⟨w.heap.size, 0, none⟩ (.bool true) (by rw [c1]; rfl)
  refine bodyPost_ret (v := .bool true) (by simp [results, Try.results10, go_sem, c2]) rfl ⟨rfl, (below_step HB0.out HBZ.out).setCell (p := ⟨w.heap.size, 0, none⟩) (Nat.le_refl _) _⟩
theorem any_many (w : World) (o : Nat) (r : Int) (v : Value) (l : List (List Nat)) (hv : Elems 1 cT w v l) (h2 : 2 ≤ o) (h16 : o ≤ 16) (hl : 100 < l.length) : Calls Try.prog 10 #[.int .i64 (o : Int), v, .int .i64 r] w (Yes w) := by
  obtain ⟨A, cap, rfl⟩ := hv.slice
  obtain ⟨c0, f0, hb0⟩ := anyres w
  have C0 := hid c0
  have F0 := hid f0
  have HB0 := hid hb0
  have hli : (100 : Int) < l.length := by omega
  clear c0 f0 hb0 hv
  go_enter Try.func10, Try.ntmps10
  go_wp2_with fail
  refine (tree_new_in _ o h2 h16).mono ?_
  rintro e w1 ⟨t1, P1, rfl, hb1, _⟩
  have HB1 := hid hb1
  clear hb1
  go_wp2_with fail
  refine (tree_new_in _ o h2 h16).mono ?_
  rintro e w2 ⟨t2, P2, rfl, hb2, _⟩
  have HB2 := hid ((below_step HB1.out hb2).alloc (Nat.le_trans HB1.out.size hb2.size) (.cells #[.int .i64 (l.length : Int)] 3))
  clear hb2
  go_wp2_with fail
  refine (awake_yes _).mono ?_
  rintro e wz ⟨rfl, hbz⟩
  have HBZ := hid (below_step HB2.out hbz)
  have c1 := below_keep HBZ.out _ _ C0.out
  have f1 := (HBZ.out.frozen (p := ⟨w.heap.size, 0, none⟩) (blk_lt C0.out)).trans F0.out
  clear hbz
  go_wp2
  have c2 := World.cell?_setCell_same' wz ⟨w.heap.size, 0, none⟩ (.bool true) (by rw [c1]; rfl)
  refine bodyPost_ret (v := .bool true) (by simp [results, Try.results10, go_sem, c2]) rfl ⟨rfl, (below_step HB0.out HBZ.out).setCell (p := ⟨w.heap.size, 0, none⟩) (Nat.le_refl _) _⟩

theorem text_ne {x y : List Nat} (hx : Byt x) (hy : Byt y) (h : y ≠ x) : ¬ (str y).toList = (str x).toList := by
  rw [str_toList, str_toList]
  exact fun e => h (ofNat_inj hy hx e)
/-- A text of a slice of texts. -/
theorem Elems.text {w : World} {A : Option Addr} {n cap i : Nat} {l : List (List Nat)} {x : List Nat} (h : Elems 1 cT w (.slice A n cap) l) (hi : l[i]? = some x) : ∃ ad, A = some ad ∧ w.cell? (ad.add i) = some (.string (str x)) := by
  obtain ⟨ad, hA, h0⟩ := h.cell cT_len hi (j := 0) rfl
  exact ⟨ad, hA, by rw [Nat.mul_one, Nat.add_zero] at h0; exact h0⟩

set_option maxHeartbeats 2000000 in
theorem any_bad (w : World) (o : Nat) (r : Int) (v : Value) (l : List (List Nat)) (hv : Elems 1 cT w v l) (hby : ∀ x ∈ l, Byt x) (h2 : 2 ≤ o) (h16 : o ≤ 16) (hl : l.length ≤ 100) (i0 : Nat) (x0 : List Nat) (hx0 : l[i0]? = some x0) (hg0 : Good (l.take i0)) (hb : ¬ keyOk x0 ∨ keyOk x0 ∧ x0 ∈ l.take i0) :
    Calls Try.prog 10 #[.int .i64 (o : Int), v, .int .i64 r] w (Yes w) := by
  obtain ⟨A, cap, rfl⟩ := hv.slice
  obtain ⟨c0, f0, hb0⟩ := anyres w
  have C0 := hid c0
  have F0 := hid f0
  have HB0 := hid hb0
  have HX0 := hid hx0
  have HG0 := hid hg0
  have HBAD := hid hb
  have HBY := hid hby
  obtain ⟨len, HLEN⟩ : ∃ len, Hid (len = l.length) := ⟨_, rfl⟩
  have HV := hid (hv.below hb0)
  rw [← HLEN.out] at hl HV ⊢
  have hi0 : i0 < len := by rw [HLEN.out]; exact (List.getElem?_eq_some_iff.1 hx0).1
  have hli : ¬ (100 : Int) < len := by omega
  clear c0 f0 hb0 hv hx0 hg0 hb hby
  go_enter Try.func10, Try.ntmps10
  go_wp2_with fail
  refine (tree_new_in _ o h2 h16).mono ?_
  rintro e w1 ⟨t1, P1, rfl, hb1, _⟩
  have HB1 := hid hb1
  clear hb1
  go_wp2_with fail
  refine (tree_new_in _ o h2 h16).mono ?_
  rintro e w2 ⟨t2, P2, rfl, hb2, _⟩
  obtain ⟨w4, HW4⟩ : ∃ W, Hid (W = w2.alloc (.cells #[.int .i64 (len : Int)] 3)) := ⟨_, rfl⟩
  have HB4 : Hid (Below (w.alloc (.cells #[.bool false] 4)).heap.size (w.alloc (.cells #[.bool false] 4)) w4) := by
    rw [HW4.out]; exact (below_step HB1.out hb2).alloc (Nat.le_trans HB1.out.size hb2.size) _
  have N4 : Hid (w4.cell? ⟨w2.heap.size, 0, none⟩ = some (.int .i64 (len : Int))) := by rw [HW4.out]; exact (new_cell w2 _ _).1
  have HV4 := hid (HV.out.below HB4.out)
  have HFIN : Hid (∀ wz, Below w4.heap.size w4 wz → wz.cell? ⟨w.heap.size, 0, none⟩ = some (.bool false) ∧ wz.frozen? ⟨w.heap.size, 0, none⟩ = false ∧ (wz.setCell ⟨w.heap.size, 0, none⟩ (.bool true)).cell? ⟨w.heap.size, 0, none⟩ = some (.bool true) ∧ Below w.heap.size w (wz.setCell ⟨w.heap.size, 0, none⟩ (.bool true))) := by
    intro wz hbz
    have hb := below_step HB4.out hbz
    have c1 := below_keep hb _ _ C0.out
    exact ⟨c1, (hb.frozen (p := ⟨w.heap.size, 0, none⟩) (blk_lt C0.out)).trans F0.out, World.cell?_setCell_same' wz ⟨w.heap.size, 0, none⟩ (.bool true) (by rw [c1]; rfl), (below_step HB0.out hb).setCell (p := ⟨w.heap.size, 0, none⟩) (Nat.le_refl _) _⟩
  clear hb2
  go_wp2
  rw [← HW4.out]
  go_loopw [12] (fun i wr => ∃ k : Nat, k ≤ i0 ∧ i = .int .i64 k ∧ ∃ m, wr = w4.drewN m) (fun i _ => i0 + 1 - (intOf i).toNat)
  case atStart => exact ⟨0, by omega, rfl, 0, rfl⟩
  case round =>
    obtain ⟨k, hk, rfl, m, rfl⟩ := hrel
    have hkl : (k : Int) < len := by omega
    obtain ⟨x, hx⟩ : ∃ x, l[k]? = some x := ⟨l[k]'(by have := HLEN.out; omega), List.getElem?_eq_getElem _⟩
    have hbx := HBY.out x (List.mem_of_getElem? hx)
    obtain ⟨ad, rfl, hcx⟩ := HV4.out.text hx
    have hsx := str_size x
    have HX := hid hx
    have HBX := hid hbx
    have n4 := N4.out
    clear hx hbx
    by_cases hk0 : k < i0
    · have HXO := hid (good_key HG0.out hk0 HX.out)
      have hx1 : ¬ (x.length : Int) < 1 := by have := HXO.out.1; omega
      have hx2 : ¬ (64 : Int) < x.length := by have := HXO.out.2; omega
      have HTX : Hid (∀ j y, l[j]? = some y → w4.cell? (ad.add j) = some (.string (str y))) := fun j y hy => by
        obtain ⟨ad', e, h⟩ := HV4.out.text hy
        injection e with e
        subst e
        exact h
      go_wp2
      clear hcx n4
      go_loopw [13] (fun i wr => ∃ j : Nat, j ≤ k ∧ i = .int .i64 j ∧ ∃ m, wr = w4.drewN m) (fun i _ => k + 1 - (intOf i).toNat)
      case atStart => exact ⟨0, by omega, rfl, _, rfl⟩
      case round =>
        obtain ⟨j, hj, rfl, m1, rfl⟩ := hrel
        by_cases hjk : j < k
        · have hjki : (j : Int) < k := by omega
          have hjl : (j : Int) < len := by omega
          obtain ⟨y, hy⟩ : ∃ y, l[j]? = some y := ⟨l[j]'(by have := HLEN.out; omega), List.getElem?_eq_getElem _⟩
          have hne := text_ne HBX.out (HBY.out y (List.mem_of_getElem? hy)) (good_at HG0.out hk0 HX.out hjk hy).2
          have hbe : ((str y).toList == (str x).toList) = false := by simp [hne]
          have hbd : decide ((str y).toList = (str x).toList) = false := decide_eq_false hne
          have hty := HTX.out j y hy
          have htx := HTX.out k x HX.out
          clear hy
          go_wp2
          go_quiet (fail)
          go_wp2
          go_roundw
          case rel => first | exact ⟨j + 1, by omega, by go_num, _, rfl⟩ | ((repeat apply Exists.intro); refine ⟨?_, rfl⟩; exact ⟨j + 1, by omega, by go_num, _, rfl⟩)
          case measure => simp [intOf]; omega
        · obtain rfl : j = k := by omega
          go_wp2
          go_roundw
          case rel => first | exact ⟨j + 1, by omega, by go_num, _, rfl⟩ | ((repeat apply Exists.intro); refine ⟨?_, rfl⟩; exact ⟨j + 1, by omega, by go_num, _, rfl⟩)
          case measure => simp [intOf]; omega
    · obtain rfl : k = i0 := by omega
      obtain rfl : x = x0 := by have h1 := HX.out; rw [HX0.out] at h1; injection h1 with h1; exact h1.symm
      rcases HBAD.out with hbad | ⟨hok, hin⟩
      · have hcase : (x.length : Int) < 1 ∨ ¬ (x.length : Int) < 1 ∧ (64 : Int) < x.length := by
          unfold keyOk at hbad
          omega
        clear hbad
        rcases hcase with h1 | ⟨h1, h64⟩
        · go_wp2_with fail
          refine (awake_yes _).mono ?_
          rintro e wz ⟨rfl, hbz⟩
          obtain ⟨c1, f1, c2, hbf⟩ := HFIN.out wz ⟨hbz.os, hbz.tape, hbz.output, hbz.size, hbz.block⟩
          have C2 := hid c2
          have HBF := hid hbf
          clear c2 hbf hbz
          go_wp2
          have c2 := C2.out
          exact bodyPost_ret (v := .bool true) (by simp [results, Try.results10, go_sem, c2]) rfl ⟨rfl, HBF.out⟩
        · go_wp2_with fail
          refine (awake_yes _).mono ?_
          rintro e wz ⟨rfl, hbz⟩
          obtain ⟨c1, f1, c2, hbf⟩ := HFIN.out wz ⟨hbz.os, hbz.tape, hbz.output, hbz.size, hbz.block⟩
          have C2 := hid c2
          have HBF := hid hbf
          clear c2 hbf hbz
          go_wp2
          have c2 := C2.out
          exact bodyPost_ret (v := .bool true) (by simp [results, Try.results10, go_sem, c2]) rfl ⟨rfl, HBF.out⟩
      · have hx1 : ¬ (x.length : Int) < 1 := by have := hok.1; omega
        have hx2 : ¬ (64 : Int) < x.length := by have := hok.2; omega
        have HIN := hid hin
        have HTX : Hid (∀ j y, l[j]? = some y → w4.cell? (ad.add j) = some (.string (str y))) := fun j y hy => by
          obtain ⟨ad', e, h⟩ := HV4.out.text hy
          injection e with e
          subst e
          exact h
        clear hok hin
        go_wp2
        clear hcx n4
        go_loopw [13] (fun i wr => ∃ j : Nat, j ≤ k ∧ i = .int .i64 j ∧ Hid (∀ j', j' < j → l[j']? ≠ some x) ∧ ∃ m, wr = w4.drewN m) (fun i _ => k + 1 - (intOf i).toNat)
        case atStart => exact ⟨0, by omega, rfl, fun j' h => by omega, _, rfl⟩
        case round =>
          obtain ⟨j, hj, rfl, hno, m1, rfl⟩ := hrel
          by_cases hjk : j < k
          · have hjki : (j : Int) < k := by omega
            have hjl : (j : Int) < len := by omega
            obtain ⟨y, hy⟩ : ∃ y, l[j]? = some y := ⟨l[j]'(by have := HLEN.out; omega), List.getElem?_eq_getElem _⟩
            have hty := HTX.out j y hy
            have htx := HTX.out k x HX.out
            have HYY := hid hy
            by_cases hyx : y = x
            · subst hyx
              clear hy
              go_wp2
              go_quiet (fail)
              go_wp2_with fail
              refine (awake_yes _).mono ?_
              rintro e wz ⟨rfl, hbz⟩
              obtain ⟨c1, f1, c2, hbf⟩ := HFIN.out wz ⟨hbz.os, hbz.tape, hbz.output, hbz.size, hbz.block⟩
              have C2 := hid c2
              have HBF := hid hbf
              clear c2 hbf hbz
              go_wp2
              have c2 := C2.out
              exact bodyPost_ret (v := .bool true) (by simp [results, Try.results10, go_sem, c2]) rfl ⟨rfl, HBF.out⟩
            · have hne := text_ne HBX.out (HBY.out y (List.mem_of_getElem? hy)) hyx
              have hbe : ((str y).toList == (str x).toList) = false := by simp [hne]
              have hbd : decide ((str y).toList = (str x).toList) = false := decide_eq_false hne
              clear hy
              have HNO : Hid (∀ j', j' < j + 1 → l[j']? ≠ some x) := by
                intro j' h e
                by_cases hj' : j' < j
                · exact hno.out j' hj' e
                · obtain rfl : j' = j := by omega
                  rw [HYY.out] at e
                  injection e with e
                  exact hyx e
              go_wp2
              go_quiet (fail)
              go_wp2
              go_roundw
              case rel => first | exact ⟨j + 1, by omega, by go_num, HNO, _, rfl⟩ | ((repeat apply Exists.intro); refine ⟨?_, rfl⟩; exact ⟨j + 1, by omega, by go_num, HNO, _, rfl⟩)
              case measure => simp [intOf]; omega
          · obtain rfl : j = k := by omega
            exfalso
            obtain ⟨b, hb⟩ := List.mem_iff_getElem?.1 HIN.out
            rw [List.getElem?_take] at hb
            split at hb
            · rename_i hh; exact hno.out b hh hb
            · cases hb
end Go.Proofs.Ytpckaglefmpkcaa
