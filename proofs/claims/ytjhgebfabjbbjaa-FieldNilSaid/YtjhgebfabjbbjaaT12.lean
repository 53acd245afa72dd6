import Derived.Test.YtjhgebfabjbbjaaT11
namespace Go.Proofs.Ytjhgebfabjbbjaa
open Go.RowKit

/-- The number's half without its first group, by k groups. -/
def half (t : List Nat) (k : Nat) : Nat := 64 * val (t.take k)
theorem half_succ {t : List Nat} {k x : Nat} (hx : t[k]? = some x) : half t (k + 1) = half t k + x % 128 * (64 * 128 ^ k) := by
  unfold half
  rw [val_take_succ hx, Nat.mul_add, Nat.mul_left_comm]
theorem half_mono (t : List Nat) {k l : Nat} (h : k ≤ l) : half t k ≤ half t l := by
  unfold half
  have := val_take_le (t.take l) k
  rw [List.take_take, Nat.min_eq_left h] at this
  omega
def place (k : Nat) : Nat := 64 * 128 ^ (min k 8)
theorem place_at {k : Nat} (h : k ≤ 8) : place k = 64 * 128 ^ k := by unfold place; rw [Nat.min_eq_left h]
theorem place_succ {k : Nat} (h : k < 8) : place (k + 1) = place k * 128 := by
  rw [place_at (by omega), place_at (by omega), Nat.pow_succ, Nat.mul_assoc]
theorem place_stay {k : Nat} (h : 8 ≤ k) : place (k + 1) = place k := by unfold place; rw [Nat.min_eq_right h, Nat.min_eq_right (by omega)]
theorem place_le (k : Nat) : place k ≤ 64 * 128 ^ 8 := by unfold place; exact Nat.mul_le_mul_left _ (Nat.pow_le_pow_right (by omega) (by omega))

def NumsIf (w : World) (c : Bool) (x y z : Nat) (e : Ending) (w' : World) : Prop := Nums w (if c then x else 0) (if c then y else 0) (if c then z else 0) e w'

theorem nums_no {w w' : World} {x y z : Nat} {e : Ending} (h : Nums w 0 0 0 e w') : NumsIf w false x y z e w' := h
theorem nums_yes {w w' : World} {x y z : Nat} {e : Ending} (h : Nums w x y z e w') : NumsIf w true x y z e w' := h
theorem row_cells {w : World} {g : Nat} {a b c : Value} {t : TypeId} (h : w.heap[g]? = some (.cells #[a, b, c] t (0, 0))) :
    w.cell? ⟨g, 0, none⟩ = some a ∧ w.cell? ⟨g, 1, none⟩ = some b ∧ w.cell? ⟨g, 2, none⟩ = some c ∧ w.frozen? ⟨g, 0, none⟩ = false ∧ w.frozen? ⟨g, 1, none⟩ = false ∧ w.frozen? ⟨g, 2, none⟩ = false :=
  ⟨cell_of_row w g 0 _ t _ h, cell_of_row w g 1 _ t _ h, cell_of_row w g 2 _ t _ h, by simp [World.frozen?, h], by simp [World.frozen?, h], by simp [World.frozen?, h]⟩
theorem two_rows {w w2 : World} {a b c a' b' c' : Value} {t : TypeId} (h : Below ((w.alloc (.cells #[a, b, c] t)).alloc (.cells #[a', b', c'] t)).heap.size ((w.alloc (.cells #[a, b, c] t)).alloc (.cells #[a', b', c'] t)) w2) :
    (w2.cell? ⟨w.heap.size, 0, none⟩ = some a ∧ w2.cell? ⟨w.heap.size, 1, none⟩ = some b ∧ w2.cell? ⟨w.heap.size, 2, none⟩ = some c) ∧ w2.frozen? ⟨w.heap.size, 0, none⟩ = false ∧ w2.frozen? ⟨w.heap.size, 1, none⟩ = false ∧ w2.frozen? ⟨w.heap.size, 2, none⟩ = false ∧
    w2.cell? ⟨w.heap.size + 1, 0, none⟩ = some a' ∧ w2.cell? ⟨w.heap.size + 1, 1, none⟩ = some b' ∧ w2.cell? ⟨w.heap.size + 1, 2, none⟩ = some c' := by
  have h1 : w2.heap[w.heap.size]? = some (.cells #[a, b, c] t (0, 0)) := by
    rw [h.block _ (by simp; omega), Below.heap_alloc _ _ _ (by simp)]; exact heap_alloc_new w _
  have h2 : w2.heap[w.heap.size + 1]? = some (.cells #[a', b', c'] t (0, 0)) := by
    rw [h.block _ (by simp)]
    have := heap_alloc_new (w.alloc (.cells #[a, b, c] t)) (.cells #[a', b', c'] t)
    simpa using this
  obtain ⟨p1, p2, p3, p4, p5, p6⟩ := row_cells h1
  obtain ⟨q1, q2, q3, _⟩ := row_cells h2
  exact ⟨⟨p1, p2, p3⟩, p4, p5, p6, q1, q2, q3⟩

set_option maxHeartbeats 1600000 in
set_option maxRecDepth 100000 in
theorem refread_good (w : World) (v : Value) (x0 : Nat) (t : List Nat) (hs : Sl .u8 w v (x0 :: t)) (hb : Byt (x0 :: t)) (hl : (x0 :: t).length ≤ 1000) (l : Nat) (hD : l = lead (x0 :: t)) (hll : l < (x0 :: t).length)
    (h9 : l ≤ 9) (h19 : l = 9 → ∀ x, (x0 :: t)[9]? = some x → x ≤ 1) (hV : half t l + 63 < 9223372036854775808) (c : Bool) (hc : preB (x0 :: t) (gr (2 * (half t l + x0 % 128 / 2) + x0 % 2)) = c) :
    Calls Try.prog 20 #[v] w (NumsIf w c (half t l + x0 % 128 / 2) (x0 % 2) (l + 1)) := by
  obtain ⟨xs, HXS⟩ : ∃ xs, Hid (xs = x0 :: t) := ⟨_, rfl⟩
  have HPRE := hid hc
  rw [← HXS.out] at hs hb hl hD hll h19 HPRE
  have HS := hid hs
  obtain ⟨A, cap, rfl, hlc, hm, _, hc⟩ := hs
  obtain ⟨len, HL⟩ : ∃ len, Hid (len = xs.length) := ⟨_, rfl⟩
  rw [← HL.out] at HS hlc hl hll ⊢
  have hge : ∀ k x, k < l → xs[k]? = some x → 128 ≤ x := fun k x h => lead_go xs k x (by rw [← hD]; exact h)
  have hend : ∀ x, xs[l]? = some x → x < 128 := fun x h => lead_end xs x (by rw [← hD]; exact h)
  have HG := hid hge
  have HE := hid hend
  have HC : Hid (∀ (i b : Nat), xs[i]? = some b → ∃ ad, A = some ad ∧ (w.alloc (.cells #[.int .i64 0, .int .i64 0, .int .i64 0] 41)).cell? (ad.add i) = some (.int .u8 (b : Int))) := fun i b hi => by
    obtain ⟨ad, h1, h2⟩ := hc i b hi
    exact ⟨ad, h1, below_keep ((Below.refl _ _).alloc (Nat.le_refl _) _) _ _ h2⟩
  have H19 := hid h19
  have HB := hid hb
  have HV := hid hV
  have hle := lead_le xs
  clear hge hend hc hm hD h19 hb hV
  go_enter Try.func20, Try.ntmps20
  go_wp2
  go_loop [3] (fun i => ∃ k : Nat, k ≤ l ∧ i = .int .i64 k) (fun i => l - (intOf i).toNat)
  case atStart => exact ⟨0, by omega, rfl⟩
  case round =>
    obtain ⟨k, hk, rfl⟩ := hrel
    by_cases hlt : k < l
    · obtain ⟨x, hx⟩ : ∃ b, xs[k]? = some b := ⟨xs[k]'(by have := HL.out; omega), List.getElem?_eq_getElem _⟩
      have hx1 := HG.out k x hlt hx
      obtain ⟨ad, rfl, hcell⟩ := HC.out k x hx
      have hkl : k < len := by omega
      have hkl1 : (k : Int) < len := by omega
      clear hx
      go_wp2
      go_round
      case rel => exact ⟨k + 1, by omega, by go_num⟩
      case measure => simp [intOf]; omega
    · obtain rfl : k = l := by omega
      obtain ⟨x, hx⟩ : ∃ b, xs[k]? = some b := ⟨xs[k]'(by have := HL.out; omega), List.getElem?_eq_getElem _⟩
      have hx1 := HE.out x hx
      have hx1' : ¬ 128 ≤ (x : Int) := by omega
      obtain ⟨ad, rfl, hcell⟩ := HC.out k x hx
      have HX := hid hx
      have hkl1 : (k : Int) < len := by omega
      have h1x : k = 9 → x ≤ 1 := fun h => H19.out h x (by subst h; exact hx)
      have H1X := hid h1x
      clear hx h1x
      have hk9i : (k : Int) ≤ 9 := by omega
      have hc0 : (w.alloc (.cells #[.int .i64 0, .int .i64 0, .int .i64 0] 41)).cell? ad = some (.int .u8 (x0 : Int)) := by
        obtain ⟨ad', h1, h2⟩ := HC.out 0 x0 (by rw [HXS.out]; rfl)
        injection h1 with h1
        subst h1
        rw [add_zero'] at h2
        exact h2
      have hcs : ∀ (i y : Nat), t[i]? = some y → (w.alloc (.cells #[.int .i64 0, .int .i64 0, .int .i64 0] 41)).cell? { block := ad.block, off := ad.off + (i + 1), spot := none } = some (.int .u8 (y : Int)) := fun i y hy => by
        obtain ⟨ad', h1, h2⟩ := HC.out (i + 1) y (by rw [HXS.out]; exact hy)
        injection h1 with h1
        subst h1
        rw [Addr.add_succ'] at h2
        exact h2
      have HC0 := hid hc0
      have HCS := hid hcs
      have hx0 : x0 < 256 := HB.out x0 (by rw [HXS.out]; exact List.mem_cons_self)
      have htl : Hid (k ≤ t.length) := by show _ ≤ _; have := HL.out; rw [HXS.out] at this; simp at this; omega
      have hcell9 : 9 ≤ k → (w.alloc (.cells #[.int .i64 0, .int .i64 0, .int .i64 0] 41)).cell? { block := ad.block, off := ad.off + 9, spot := none } = some (.int .u8 (x : Int)) := fun h => by
        obtain rfl : k = 9 := by omega
        rw [← show ad.add 9 = { block := ad.block, off := ad.off + 9, spot := none } from Addr.add_succ' ad 8]; exact hcell
      have HC9 := hid hcell9
      clear hc0 hcs hcell9 hle
      by_cases h9' : 9 ≤ (k : Int)
      · have h2 : ¬ 1 < (x : Int) := by have := H1X.out (by omega); omega
        have hcell9 := HC9.out (by omega)
        have HC9 := hid hcell9
        go_wp2
        go_loop [4, 5, 6] (fun a b i => ∃ j : Nat, j ≤ k ∧ a = .int .i64 (half t j : Nat) ∧ b = .int .i64 (place j : Nat) ∧ i = .int .i64 (j + 1 : Nat)) (fun _ _ i => k + 1 - (intOf i).toNat)
        case atStart => exact ⟨0, by omega, by simp [half, val], by simp [place], rfl⟩
        case round =>
          obtain ⟨j, hj, rfl, rfl, rfl⟩ := hrel
          by_cases hjk : j < k
          · obtain ⟨y, hy⟩ : ∃ b, t[j]? = some b := ⟨t[j]'(by have := htl.out; omega), List.getElem?_eq_getElem _⟩
            have hcy := HCS.out j y hy
            have hy256 : y < 256 := HB.out y (by rw [HXS.out]; exact List.mem_cons_of_mem _ (List.mem_of_getElem? hy))
            have hh1 := half_succ hy
            have hh2 := half_mono t (k := j + 1) (l := k) (by omega)
            have hp1 := place_at (k := j) (by omega)
            rw [← hp1] at hh1
            have hp2 := place_le j
            have hp3 : j < 8 → place j * 128 = place (j + 1) := fun h => (place_succ h).symm
            have hp4 : 8 ≤ j → place j = place (j + 1) := fun h => (place_stay h).symm
            have hp5 := place_le (j + 1)
            have hM : ((y : Int) % 128 * (place j : Int)) = ((y % 128 * place j : Nat) : Int) := by push_cast; rfl
            have hS : half t j + y % 128 * place j ≤ 9223372036854775807 := by have := HV.out; omega
            have HH1 := hid hh1
            have hpl : place j ≤ 4611686018427387904 := hp2
            have hpl' : place (j + 1) ≤ 4611686018427387904 := hp5
            generalize y % 128 * place j = M at *
            generalize half t j = Hj at *
            generalize place j = P0 at *
            clear hh1 hh2 hp1 hp2 hp5 hy
            by_cases hj8 : j < 8
            · have hp := hp3 hj8
              have HP := hid hp
              have hp' : P0 * 128 ≤ 4611686018427387904 := by (rw [hp]; exact hpl')
              clear hp hp3 hp4
              go_wp2
              go_round
              case rel => exact ⟨j + 1, by omega, by rw [HH1.out]; go_num, by rw [← HP.out]; go_num, by go_num⟩
              case measure => simp [intOf]; omega
            · have hp := hp4 (by omega)
              have HP := hid hp
              clear hp hp3 hp4
              go_wp2
              go_round
              case rel => exact ⟨j + 1, by omega, by rw [HH1.out]; go_num, by rw [← HP.out], by go_num⟩
              case measure => simp [intOf]; omega
          · obtain rfl : j = k := by omega
            have hHV : half t j + 63 ≤ 9223372036854775807 := by have := HV.out; omega
            have hcell0 := HC0.out
            have hq : x0 % 128 / 2 ≤ 63 := by omega
            generalize half t j = Hj at *
            generalize place j = P0 at *
            clear hcell HC9
            go_wp2_with fail
            refine (refgroups _ (Hj + x0 % 128 / 2) (x0 % 2) (by omega) (by omega)).mono ?_
            rintro e w1 ⟨u, rfl, hu, hc1⟩
            have HB1 := hid hc1.nil_below
            have HU := hid hu.sl
            clear hu hc1
            go_wp2_with fail
            refine (same_any w1 _ _ xs (gr (2 * (Hj + x0 % 128 / 2) + x0 % 2)) ((HS.out.alloc _).alloc _ |>.below HB1.out) HU.out).mono ?_
            rw [HPRE.out]
            rintro e w2 ⟨rfl, hb2⟩
            obtain ⟨⟨r0, r1, r2⟩, r3, r4, r5, r6, r7, r8⟩ := two_rows (HB1.out.trans (hb2.mono HB1.out.size))
            have HB2 := hid (HB1.out.trans (hb2.mono HB1.out.size))
            clear hb2
            have hb0 := ((Below.refl w.heap.size w).alloc (Nat.le_refl _) (.cells #[.int .i64 0, .int .i64 0, .int .i64 0] 41)).alloc (by simp) (.cells #[.int .i64 (Hj + x0 % 128 / 2 : Nat), .int .i64 (x0 % 2 : Nat), .int .i64 (j + 1 : Nat)] 41)
            have HBW : Hid (Below w.heap.size w w2) := by
              refine Below.trans (((Below.refl w.heap.size w).alloc (Nat.le_refl _) _).alloc (by simp) _) (HB2.out.mono (by simp; omega))
            clear hb0
            cases c
            · go_wp2
              refine bodyPost_ret (v := .agg #[.int .i64 0, .int .i64 0, .int .i64 0]) (by simp [results, Try.results20, go_sem, r0, r1, r2]) rfl (nums_no ⟨rfl, ?_⟩)
              exact ((HBW.out.setCell (Nat.le_refl _) _).setCell (Nat.le_refl _) _).setCell (Nat.le_refl _) _
            · go_wp2
              refine bodyPost_ret (v := .agg #[.int .i64 (Hj + x0 % 128 / 2 : Nat), .int .i64 (x0 % 2 : Nat), .int .i64 (j + 1 : Nat)]) (by simp [results, Try.results20, go_sem, r0, r1, r2] <;> omega) rfl (nums_yes ⟨rfl, ?_⟩)
              exact ((HBW.out.setCell (Nat.le_refl _) _).setCell (Nat.le_refl _) _).setCell (Nat.le_refl _) _
      · go_wp2
        go_loop [4, 5, 6] (fun a b i => ∃ j : Nat, j ≤ k ∧ a = .int .i64 (half t j : Nat) ∧ b = .int .i64 (place j : Nat) ∧ i = .int .i64 (j + 1 : Nat)) (fun _ _ i => k + 1 - (intOf i).toNat)
        case atStart => exact ⟨0, by omega, by simp [half, val], by simp [place], rfl⟩
        case round =>
          obtain ⟨j, hj, rfl, rfl, rfl⟩ := hrel
          by_cases hjk : j < k
          · obtain ⟨y, hy⟩ : ∃ b, t[j]? = some b := ⟨t[j]'(by have := htl.out; omega), List.getElem?_eq_getElem _⟩
            have hcy := HCS.out j y hy
            have hy256 : y < 256 := HB.out y (by rw [HXS.out]; exact List.mem_cons_of_mem _ (List.mem_of_getElem? hy))
            have hh1 := half_succ hy
            have hh2 := half_mono t (k := j + 1) (l := k) (by omega)
            have hp1 := place_at (k := j) (by omega)
            rw [← hp1] at hh1
            have hp2 := place_le j
            have hp3 : j < 8 → place j * 128 = place (j + 1) := fun h => (place_succ h).symm
            have hp4 : 8 ≤ j → place j = place (j + 1) := fun h => (place_stay h).symm
            have hp5 := place_le (j + 1)
            have hM : ((y : Int) % 128 * (place j : Int)) = ((y % 128 * place j : Nat) : Int) := by push_cast; rfl
            have hS : half t j + y % 128 * place j ≤ 9223372036854775807 := by have := HV.out; omega
            have HH1 := hid hh1
            have hpl : place j ≤ 4611686018427387904 := hp2
            have hpl' : place (j + 1) ≤ 4611686018427387904 := hp5
            generalize y % 128 * place j = M at *
            generalize half t j = Hj at *
            generalize place j = P0 at *
            clear hh1 hh2 hp1 hp2 hp5 hy
            · have hj8 : j < 8 := by omega
              have hp := hp3 hj8
              have HP := hid hp
              have hp' : P0 * 128 ≤ 4611686018427387904 := by (rw [hp]; exact hpl')
              clear hp hp3 hp4
              go_wp2
              go_round
              case rel => exact ⟨j + 1, by omega, by rw [HH1.out]; go_num, by rw [← HP.out]; go_num, by go_num⟩
              case measure => simp [intOf]; omega
          · obtain rfl : j = k := by omega
            have hHV : half t j + 63 ≤ 9223372036854775807 := by have := HV.out; omega
            have hcell0 := HC0.out
            have hq : x0 % 128 / 2 ≤ 63 := by omega
            generalize half t j = Hj at *
            generalize place j = P0 at *
            clear hcell HC9
            go_wp2_with fail
            refine (refgroups _ (Hj + x0 % 128 / 2) (x0 % 2) (by omega) (by omega)).mono ?_
            rintro e w1 ⟨u, rfl, hu, hc1⟩
            have HB1 := hid hc1.nil_below
            have HU := hid hu.sl
            clear hu hc1
            go_wp2_with fail
            refine (same_any w1 _ _ xs (gr (2 * (Hj + x0 % 128 / 2) + x0 % 2)) ((HS.out.alloc _).alloc _ |>.below HB1.out) HU.out).mono ?_
            rw [HPRE.out]
            rintro e w2 ⟨rfl, hb2⟩
            obtain ⟨⟨r0, r1, r2⟩, r3, r4, r5, r6, r7, r8⟩ := two_rows (HB1.out.trans (hb2.mono HB1.out.size))
            have HB2 := hid (HB1.out.trans (hb2.mono HB1.out.size))
            clear hb2
            have hb0 := ((Below.refl w.heap.size w).alloc (Nat.le_refl _) (.cells #[.int .i64 0, .int .i64 0, .int .i64 0] 41)).alloc (by simp) (.cells #[.int .i64 (Hj + x0 % 128 / 2 : Nat), .int .i64 (x0 % 2 : Nat), .int .i64 (j + 1 : Nat)] 41)
            have HBW : Hid (Below w.heap.size w w2) := by
              refine Below.trans (((Below.refl w.heap.size w).alloc (Nat.le_refl _) _).alloc (by simp) _) (HB2.out.mono (by simp; omega))
            clear hb0
            cases c
            · go_wp2
              refine bodyPost_ret (v := .agg #[.int .i64 0, .int .i64 0, .int .i64 0]) (by simp [results, Try.results20, go_sem, r0, r1, r2]) rfl (nums_no ⟨rfl, ?_⟩)
              exact ((HBW.out.setCell (Nat.le_refl _) _).setCell (Nat.le_refl _) _).setCell (Nat.le_refl _) _
            · go_wp2
              refine bodyPost_ret (v := .agg #[.int .i64 (Hj + x0 % 128 / 2 : Nat), .int .i64 (x0 % 2 : Nat), .int .i64 (j + 1 : Nat)]) (by simp [results, Try.results20, go_sem, r0, r1, r2] <;> omega) rfl (nums_yes ⟨rfl, ?_⟩)
              exact ((HBW.out.setCell (Nat.le_refl _) _).setCell (Nat.le_refl _) _).setCell (Nat.le_refl _) _
end Go.Proofs.Ytjhgebfabjbbjaa
