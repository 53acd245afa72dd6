/- The reference's Decode. -/
import Derived.Test.YtcnhklmfahbaoaaS4
namespace Go.Proofs.Ytcnhklmfahbaoaa
open Go.RowKit

theorem felem8 : Try.prog.elem 25 = 5 := by kernel_rfl
theorem frun_size8 (W : World) : (sizeOf 5).run Try.prog W = .ok 1 W := by kernel_rfl
/-- What is cut off from a to h, whatever the capacity. -/
theorem cut_sl {w : World} {A : Option Addr} {len cap : Nat} {xs : List Nat} (hs : Sl .u8 w (.slice A len cap) xs) {a h : Nat} (ha : a ≤ h) (hh : h ≤ len) :
    Sl .u8 w (sliced A a h cap 1) ((xs.drop a).take (h - a)) := by
  have hl := hs.len
  obtain ⟨A', c', hv, hc, hm, hn, hx⟩ := hs
  injection hv with e1 e2 e3
  subst e1; subst e3
  unfold sliced
  have hlen : ((xs.drop a).take (h - a)).length = h - a := by rw [List.length_take, List.length_drop]; omega
  refine ⟨_, cap - a, by rw [hlen], by rw [hlen]; omega, by omega, fun hA => ?_, fun i b hi => ?_⟩
  · split at hA
    · omega
    · cases A with
      | none => have := hn rfl; omega
      | some ad => cases hA
  · rw [List.getElem?_take] at hi
    split at hi
    · rw [List.getElem?_drop] at hi
      obtain ⟨ad, hA, hcell⟩ := hx _ _ hi
      have hil : a + i < xs.length := (List.getElem?_eq_some_iff.1 hi).1
      rw [if_neg (by omega), hA]
      exact ⟨_, rfl, by rw [Nat.mul_one, add_add']; exact hcell⟩
    · cases hi
theorem run_cut_from (W : World) (A : Option Addr) (len cap a : Nat) (ha : a ≤ len) :
    (Instr.slice 25 (.slice A len cap) (some (.int .i64 (a : Int))) none none).run Try.prog W = .ok (sliced A a len cap 1) W := by
  have h := run_slice_l (P := Try.prog) (w := W) 25 A len cap (by rw [felem8]; exact Try.underlying25) .i64 (a : Int) (by omega) (by omega)
  rw [felem8, frun_size8] at h
  simpa [Result.andThen] using h

theorem enc_cut (l : List Int) (k : Nat) : enc l = enc (l.take k) ++ enc (l.drop k) := by
  unfold enc
  rw [← List.flatMap_append, List.take_append_drop]

def RDecRel (W : World) (l : List Int) (k : Nat) (wr : World) : Prop :=
  Lies wr W.heap.size zero4 ∧ wr.heap[W.heap.size + 1]? = some (.cells (rowl (padr l k)) 23 (0, 0)) ∧ Below W.heap.size W wr

/-- The world behind a number's reading: it lies in a cell of its own, and the column is stored. -/
theorem rdec_step {W w' : World} {l : List Int} {k : Nat} {x : Int} {c : Array Value} {t : TypeId} (hZ : Lies w' W.heap.size zero4) (hP : w'.heap[W.heap.size + 1]? = some (.cells (rowl (padr l k)) 23 (0, 0)))
    (hB : Below W.heap.size W w') (hx : l[k]? = some x) (h4 : k < 4) :
    Hid (RDecRel W l (k + 1) ((w'.alloc (.cells c t)).setCell ⟨W.heap.size + 1, k, none⟩ (.int .i64 x))) ∧
    (∀ y : Value, Hid (RDecRel W l (k + 1) (((w'.alloc (.cells c t)).setCell ⟨W.heap.size + 1, k, none⟩ y).setCell ⟨W.heap.size + 1, k, none⟩ (.int .i64 x)))) ∧
    (∃ u, (w'.alloc (.cells c t)).cell? ⟨W.heap.size + 1, k, none⟩ = some u) ∧ (w'.alloc (.cells c t)).frozen? ⟨W.heap.size + 1, k, none⟩ = false := by
  have hl : W.heap.size + 1 < w'.heap.size := (Array.getElem?_eq_some_iff.1 hP).1
  have hP1 : (w'.alloc (.cells c t)).heap[W.heap.size + 1]? = some (.cells (rowl (padr l k)) 23 (0, 0)) := by
    rw [Below.heap_alloc _ _ _ hl]; exact hP
  have hZ1 : Lies (w'.alloc (.cells c t)) W.heap.size zero4 := hZ.below ((Below.refl _ _).alloc (Nat.le_refl _) _)
  have hB1 : Below W.heap.size W (w'.alloc (.cells c t)) := hB.alloc hB.size _
  have hkl : k < l.length := (List.getElem?_eq_some_iff.1 hx).1
  refine ⟨⟨?_, ?_, hB1.setCell (by show W.heap.size ≤ W.heap.size + 1; omega) _⟩, fun y => ⟨?_, ?_, (hB1.setCell (by show W.heap.size ≤ W.heap.size + 1; omega) _).setCell (by show W.heap.size ≤ W.heap.size + 1; omega) _⟩, ?_, ?_⟩
  · exact hZ1.keep (Below.heap_setCell _ _ _ _ (by show W.heap.size ≠ W.heap.size + 1; omega))
  · have := setCell_row hP1 (i := k) (.int .i64 x)
    rw [rowl_set, padr_step hx h4] at this
    exact this
  · exact (hZ1.keep (Below.heap_setCell _ _ _ _ (by show W.heap.size ≠ W.heap.size + 1; omega))).keep (Below.heap_setCell _ _ _ _ (by show W.heap.size ≠ W.heap.size + 1; omega))
  · have h1 := setCell_row hP1 (i := k) y
    have := setCell_row h1 (i := k) (.int .i64 x)
    rw [show ((rowl (padr l k)).set! k y).set! k (.int .i64 x) = rowl ((padr l k).set k x) by rw [← rowl_set]; simp [Array.set!_eq_setIfInBounds], padr_step hx h4] at this
    exact this
  · exact ⟨_, (cell_of_row _ _ k _ _ _ hP1).trans (rowl_at (List.getElem?_eq_getElem (by rw [padr_len (by omega) (by omega)]; exact h4)))⟩
  · simp [World.frozen?, hP1]

set_option maxRecDepth 100000 in
theorem refdecode (w : World) (v : Value) (l : List Int) (rest : List Nat) (r : Ro) (c : Bool) (hs : Sl .u8 w v (enc l ++ rest)) (hb : Byt rest) (hl : ∀ x ∈ l, I64 x)
    (hm : l.length = 4 ∧ rest = [] ∧ r.l = l ∧ c = true ∨ l.length = 4 ∧ rest ≠ [] ∧ r = zero4 ∧ c = false ∨ l.length < 4 ∧ NoGr rest ∧ r = zero4 ∧ c = false) (hn : (enc l ++ rest).length ≤ 100) :
    Calls Try.prog 14 #[v] w (Told w (rowv r) (.bool c)) := by
  have HS := hid hs
  have HM := hid hm
  have HL := hid hl
  have HB := hid hb
  have hmle : l.length ≤ 4 := by omega
  obtain ⟨m, HLN⟩ : ∃ m, Hid (m = l.length) := ⟨_, rfl⟩
  rw [← HLN.out] at hmle
  obtain ⟨xs, HXS⟩ : ∃ xs, Hid (xs = enc l ++ rest) := ⟨_, rfl⟩
  rw [← HXS.out] at HS hn
  obtain ⟨A, len, cp, hv⟩ : ∃ A n cp, v = .slice A n cp := by obtain ⟨A, cp, h, _⟩ := hs; exact ⟨A, _, cp, h⟩
  subst hv
  have hlen := HS.out.len
  have HLEN := hid hlen
  rw [← hlen] at hn
  have hst : RDecRel w l 0 ((w.alloc (.cells (rowc zero4) 23)).alloc (.cells (rowc zero4) 23)) := by
    refine ⟨(Lies.new w _).below ((Below.refl _ _).alloc (Nat.le_refl _) _), ?_, ((Below.refl _ _).alloc (Nat.le_refl _) _).alloc (by simp) _⟩
    have := Lies.new (w.alloc (.cells (rowc zero4) 23)) zero4
    rw [show (w.alloc (.cells (rowc zero4) 23)).heap.size = w.heap.size + 1 by simp] at this
    exact this
  have HST := hid hst
  clear hst hs hm hl hb hlen
  go_enter Try.func14, Try.ntmps14
  go_wp2
  go_loopw [5, 6] (fun a i wr => ∃ k : Nat, k ≤ m ∧ a = .int .i64 ((enc (l.take k)).length : Nat) ∧ i = .int .i64 k ∧ RDecRel w l k wr) (fun _ i _ => 4 - (intOf i).toNat)
  case atStart => exact ⟨0, by omega, rfl, rfl, HST.out⟩
  case round =>
    obtain ⟨k, hk, rfl, rfl, hZ, hP, hB⟩ := hrel
    have HZ := hid hZ
    have HP := hid hP
    have HBL := hid hB
    have hcut := enc_cut l k
    obtain ⟨at_, HAT⟩ : ∃ at_, Hid (at_ = (enc (l.take k)).length) := ⟨_, rfl⟩
    rw [← HAT.out]
    have hale : at_ ≤ len := by rw [HAT.out, HLEN.out, HXS.out, hcut]; simp
    have hxd : xs.drop at_ = enc (l.drop k) ++ rest := by rw [HXS.out, hcut, HAT.out, List.append_assoc, List.drop_left]
    have hsl : Sl .u8 wr (sliced A at_ len cp 1) (enc (l.drop k) ++ rest) := by
      have h := cut_sl (HS.out.below hB) hale (Nat.le_refl len)
      rw [List.take_of_length_le (by rw [List.length_drop, ← HLEN.out]; omega), hxd] at h
      exact h
    have hsl1 : (enc (l.drop k) ++ rest).length ≤ 1000 := by rw [← hxd, List.length_drop, ← HLEN.out]; omega
    have hcf := fun W => run_cut_from W A len cp at_ hale
    obtain ⟨V, hV⟩ : ∃ V, V = sliced A at_ len cp 1 := ⟨_, rfl⟩
    rw [← hV] at hsl hcf
    clear hV
    have HSL := hid hsl
    have HSL1 := hid hsl1
    have HXD := hid hxd
    have HALE := hid hale
    clear hZ hP hB hcut hxd hsl hsl1 hale
    by_cases hlt : k < m
    · obtain ⟨x, hx⟩ : ∃ x, l[k]? = some x := ⟨l[k]'(by have := HLN.out; omega), List.getElem?_eq_getElem _⟩
      have HX := hid hx
      have HI := hid (HL.out x (List.mem_of_getElem? hx))
      have h4 : (k : Int) < 4 := by omega
      have he := HSL.out
      have he1 := HSL1.out
      rw [enc_drop hx, List.append_assoc] at he he1
      have HE := hid he
      have HE1 := hid he1
      have hbr : Hid (Byt (enc (l.drop (k + 1)) ++ rest)) := (enc_byt _).app HB.out
      have hgr := gr_pos (zig x)
      have hgl : (gr (zig x)).length ≤ 1000 := by have := HE1.out; rw [List.length_append] at this; omega
      have hat : at_ + (gr (zig x)).length = (enc (l.take (k + 1))).length := by rw [HAT.out, ← enc_snoc hx, List.length_append]
      have HATN := hid hat
      clear hx he he1 hat
      go_wp2_with fail
      refine (refread_yes wr _ (zig x) _ HE.out hbr.out (zig_lt HI.out.1 HI.out.2) HE1.out).mono ?_
      rintro e w' ⟨rfl, hb'⟩
      have hP1 : w'.heap[w.heap.size + 1]? = some (.cells (rowl (padr l k)) 23 (0, 0)) := by
        rw [hb'.block _ (Array.getElem?_eq_some_iff.1 HP.out).1]; exact HP.out
      have hZ1 : Lies w' w.heap.size zero4 := HZ.out.below hb'
      have hB1 : Below w.heap.size w w' := HBL.out.trans (hb'.mono HBL.out.size)
      obtain ⟨n1, HN1⟩ : ∃ n1, Hid (n1 = (gr (zig x)).length) := ⟨_, rfl⟩
      rw [← HN1.out] at hgr hgl ⊢
      have HATN1 : Hid (at_ + n1 = (enc (l.take (k + 1))).length) := by show _ = _; rw [HN1.out]; exact HATN.out
      by_cases hneg : x < 0
      · obtain ⟨g1, g2⟩ := zig_odd hneg
        obtain ⟨h2, hx2, hz⟩ : ∃ h2 : Nat, x = -1 - (h2 : Int) ∧ zig x / 2 = h2 := ⟨_, g2.symm, rfl⟩
        obtain ⟨S1, S2, ⟨u, hu⟩, hf⟩ := rdec_step (c := #[.int .i64 (h2 : Int), .int .i64 1, .int .i64 (n1 : Int)]) (t := 64) hZ1 hP1 hB1 HX.out (by omega)
        rw [g1, hz]
        have hlo : (h2 : Int) ≤ 9223372036854775807 := by have := HI.out.1; omega
        have S3 := S2 (.int .i64 (h2 : Int))
        rw [hx2] at S3
        have hgt : w.heap.size + 1 < w'.heap.size := (Array.getElem?_eq_some_iff.1 hP1).1
        have hq : ((w'.alloc (.cells #[.int .i64 (h2 : Int), .int .i64 1, .int .i64 (n1 : Int)] 64)).setCell ⟨w.heap.size + 1, k, none⟩ (.int .i64 (h2 : Int))).heap[w'.heap.size]? = some (.cells #[.int .i64 (h2 : Int), .int .i64 1, .int .i64 (n1 : Int)] 64 (0, 0)) := by
          rw [Below.heap_setCell _ _ _ _ (by show w'.heap.size ≠ w.heap.size + 1; omega)]; exact heap_alloc_new _ _
        obtain ⟨q0, q1, q2, _⟩ := row_cells hq
        have hq' : (((w'.alloc (.cells #[.int .i64 (h2 : Int), .int .i64 1, .int .i64 (n1 : Int)] 64)).setCell ⟨w.heap.size + 1, k, none⟩ (.int .i64 (h2 : Int))).setCell ⟨w.heap.size + 1, k, none⟩ (.int .i64 (-1 - (h2 : Int)))).heap[w'.heap.size]? = some (.cells #[.int .i64 (h2 : Int), .int .i64 1, .int .i64 (n1 : Int)] 64 (0, 0)) := by
          rw [Below.heap_setCell _ _ _ _ (by show w'.heap.size ≠ w.heap.size + 1; omega)]; exact hq
        obtain ⟨r0, r1, r2, _⟩ := row_cells hq'
        have hn0 : ((n1 : Int) == 0) = false := by simp; omega
        have hale' := HALE.out
        obtain ⟨u2, hu2⟩ : ∃ u2, ((w'.alloc (.cells #[.int .i64 (h2 : Int), .int .i64 1, .int .i64 (n1 : Int)] 64)).setCell ⟨w.heap.size + 1, k, none⟩ (.int .i64 (h2 : Int))).cell? ⟨w.heap.size + 1, k, none⟩ = some u2 := by
          have h := setCell_row (by rw [Below.heap_alloc _ _ _ hgt]; exact hP1 : (w'.alloc (.cells #[.int .i64 (h2 : Int), .int .i64 1, .int .i64 (n1 : Int)] 64)).heap[w.heap.size + 1]? = _) (i := k) (.int .i64 (h2 : Int))
          rw [rowl_set] at h
          exact ⟨_, (cell_of_row _ _ k _ _ _ h).trans (rowl_at (List.getElem?_eq_getElem (by rw [List.length_set, padr_len (by have := HLN.out; omega) (by omega)]; omega)))⟩
        have hf2 : ((w'.alloc (.cells #[.int .i64 (h2 : Int), .int .i64 1, .int .i64 (n1 : Int)] 64)).setCell ⟨w.heap.size + 1, k, none⟩ (.int .i64 (h2 : Int))).frozen? ⟨w.heap.size + 1, k, none⟩ = false := by
          have h := setCell_row (by rw [Below.heap_alloc _ _ _ hgt]; exact hP1 : (w'.alloc (.cells #[.int .i64 (h2 : Int), .int .i64 1, .int .i64 (n1 : Int)] 64)).heap[w.heap.size + 1]? = _) (i := k) (.int .i64 (h2 : Int))
          simp [World.frozen?, h]
        clear S1 S2 hP1 hZ1 hB1 hb' g1 g2 hx2 hz hneg hq hq' hgt
        go_wp2
        go_roundw
        case rel => exact ⟨k + 1, by omega, by rw [← HATN1.out]; have := HALE.out; go_num, by go_num, S3.out⟩
        case measure => simp [intOf]; omega
      · obtain ⟨g1, g2⟩ := zig_even (n := x) (by omega)
        obtain ⟨h2, hx2, hz⟩ : ∃ h2 : Nat, x = (h2 : Int) ∧ zig x / 2 = h2 := ⟨_, g2.symm, rfl⟩
        obtain ⟨S1, S2, ⟨u, hu⟩, hf⟩ := rdec_step (c := #[.int .i64 (h2 : Int), .int .i64 0, .int .i64 (n1 : Int)]) (t := 64) hZ1 hP1 hB1 HX.out (by omega)
        rw [g1, hz]
        have hlo : (h2 : Int) ≤ 9223372036854775807 := by have := HI.out.2; omega
        rw [hx2] at S1
        have hgt : w.heap.size + 1 < w'.heap.size := (Array.getElem?_eq_some_iff.1 hP1).1
        have hq : ((w'.alloc (.cells #[.int .i64 (h2 : Int), .int .i64 0, .int .i64 (n1 : Int)] 64)).setCell ⟨w.heap.size + 1, k, none⟩ (.int .i64 (h2 : Int))).heap[w'.heap.size]? = some (.cells #[.int .i64 (h2 : Int), .int .i64 0, .int .i64 (n1 : Int)] 64 (0, 0)) := by
          rw [Below.heap_setCell _ _ _ _ (by show w'.heap.size ≠ w.heap.size + 1; omega)]; exact heap_alloc_new _ _
        obtain ⟨q0, q1, q2, _⟩ := row_cells hq
        have hn0 : ((n1 : Int) == 0) = false := by simp; omega
        have hale' := HALE.out
        clear S2 hP1 hZ1 hB1 hb' g1 g2 hx2 hz hneg hq hgt
        go_wp2
        go_roundw
        case rel => exact ⟨k + 1, by omega, by rw [← HATN1.out]; have := HALE.out; go_num, by go_num, S1.out⟩
        case measure => simp [intOf]; omega
    · obtain rfl : k = m := by omega
      rcases HM.out with ⟨h4, hr0, hrl, hc0⟩ | ⟨h4, hr0, hrl, hc0⟩ | ⟨h4, hng, hr0, hc0⟩
      · have hk4 : k = 4 := by have := HLN.out; omega
        subst hk4 hc0
        have hP := HP.out
        rw [padr_all h4, ← hrl, rowl_ro] at hP
        have hL1 : Hid (Lies wr (w.heap.size + 1) r) := hP
        obtain ⟨⟨c0, c1, c2, c3⟩, _⟩ := hL1.out.cells
        obtain ⟨⟨z0, z1, z2, z3⟩, f0, f1, f2, f3⟩ := HZ.out.cells
        have HPP := hid (HZ.out.put r).cells.1
        have HBB : Hid (Below w.heap.size w (put4 wr w.heap.size r)) := below_put4 HBL.out (Nat.le_refl _) r
        have he : at_ = len := by
          rw [HAT.out, HLEN.out, HXS.out, hr0, List.append_nil, List.take_of_length_le (by omega)]
        clear hP h4 hr0 hrl
        subst he
        go_wp2
        obtain ⟨p0, p1, p2, p3⟩ := HPP.out
        exact bodyPost_ret (v := .tuple #[rowv r, .bool true]) (by simp [results, Try.results14, go_sem, p0, p1, p2, p3, rowv, rowc]) rfl ⟨rfl, HBB.out⟩
      · have hk4 : k = 4 := by have := HLN.out; omega
        subst hk4 hc0 hrl
        obtain ⟨⟨z0, z1, z2, z3⟩, f0, f1, f2, f3⟩ := HZ.out.cells
        have HPP := hid (HZ.out.put zero4).cells.1
        have HBB : Hid (Below w.heap.size w (put4 wr w.heap.size zero4)) := below_put4 HBL.out (Nat.le_refl _) zero4
        have he : (at_ : Int) ≠ len := by
          have h1 : 0 < rest.length := by cases rest with
            | nil => exact absurd rfl hr0
            | cons y ys => simp
          have h2 : len = (enc l).length + rest.length := by rw [HLEN.out, HXS.out, List.length_append]
          have h3 : at_ = (enc l).length := by rw [HAT.out, List.take_of_length_le (by omega)]
          omega
        dsimp only [zero4] at z0 z1 z2 z3
        clear h4 hr0
        unfold rowv rowc zero4
        go_wp2
        obtain ⟨p0, p1, p2, p3⟩ := HPP.out
        dsimp only [zero4] at p0 p1 p2 p3
        exact bodyPost_ret (v := .tuple #[rowv zero4, .bool false]) (by simp [results, Try.results14, go_sem, p0, p1, p2, p3, rowv, rowc, zero4]) rfl ⟨rfl, HBB.out⟩
      · subst hc0 hr0
        have he := HSL.out
        have he1 := HSL1.out
        rw [List.drop_of_length_le (by have := HLN.out; omega)] at he he1
        have HE : Hid (Sl .u8 wr V rest) := he
        have HE1 : Hid (rest.length ≤ 1000) := he1
        have h4' : (k : Int) < 4 := by have := HLN.out; omega
        have HNG := hid hng
        clear h4 hng he he1
        go_wp2_with fail
        refine (refread_no wr _ rest HE.out HB.out HNG.out HE1.out).mono ?_
        rintro e w' ⟨rfl, hb'⟩
        have hZ1 : Hid (Lies (w'.alloc (.cells #[.int .i64 0, .int .i64 0, .int .i64 0] 64)) w.heap.size zero4) := (HZ.out.below hb').below ((Below.refl _ _).alloc (Nat.le_refl _) _)
        have hB1 : Hid (Below w.heap.size w (w'.alloc (.cells #[.int .i64 0, .int .i64 0, .int .i64 0] 64))) := (HBL.out.trans (hb'.mono HBL.out.size)).alloc (Nat.le_trans HBL.out.size hb'.size) _
        obtain ⟨⟨z0, z1, z2, z3⟩, f0, f1, f2, f3⟩ := hZ1.out.cells
        dsimp only [zero4] at z0 z1 z2 z3
        have HPP := hid (hZ1.out.put zero4).cells.1
        have HBB : Hid (Below w.heap.size w (put4 (w'.alloc (.cells #[.int .i64 0, .int .i64 0, .int .i64 0] 64)) w.heap.size zero4)) := below_put4 hB1.out (Nat.le_refl _) zero4
        clear hb'
        go_wp2
        obtain ⟨p0, p1, p2, p3⟩ := HPP.out
        dsimp only [zero4] at p0 p1 p2 p3
        exact bodyPost_ret (v := .tuple #[rowv zero4, .bool false]) (by simp [results, Try.results14, go_sem, p0, p1, p2, p3, rowv, rowc, zero4]) rfl ⟨rfl, HBB.out⟩
end Go.Proofs.Ytcnhklmfahbaoaa
