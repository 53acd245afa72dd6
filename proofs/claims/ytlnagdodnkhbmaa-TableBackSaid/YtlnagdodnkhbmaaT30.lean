/- Check, of a table whose indexes are its rows': true. -/
import Derived.Test.YtlnagdodnkhbmaaT22
namespace Go.Proofs.Ytlnagdodnkhbmaa
open Go.RowKit Go.Shelf
set_option maxRecDepth 100000
attribute [local go_sem] Oper.semAt_some

theorem upto_new (r : Ro) : ∀ m, m ≤ 4 → ∀ g ∈ upto none (some r) m, g.1 < 4 ∧ g.2.1 = r.at g.1
  | 0, _, g, hg => by simp [upto] at hg
  | m + 1, h, g, hg => by
    rw [upto_succ] at hg
    rcases List.mem_append.1 hg with hg | hg
    · exact upto_new r m (by omega) g hg
    · rw [chg1_new r (by omega)] at hg
      rw [List.mem_singleton.1 hg]
      exact ⟨by show m < 4; omega, rfl⟩
section
variable {w : World} {T : Nat} {p : Nat → Nat} {Q : Bl} {most o : Nat} {J : Nat → List Pr} {l : List KR}
theorem tget_at (hT : TabI w T p Q most o J) (hok : TOk l J) (hle : l.length ≤ 1024) {col : Nat} (hc : col < 4) {k : List Nat} {r : Ro} (hm : (k, r) ∈ l) :
    Calls Try.prog 42 #[.pointer (some ⟨p col, 0, none⟩), .string (str (entB (r.at col) k))] w fun e w' => (∃ s, e = .returned (.tuple #[.string s, .int .i64 0])) ∧ Below w.heap.size w w' := by
  have hk := hok.rows.key _ hm
  dsimp only at hk
  have hkl := keyB_yes hk
  refine ((hT.t col (by omega)).get (by rw [hok.len (by omega)]; omega) (entB (r.at col) k) (entB_byt _ (hok.rows.byt _ hm)) (by rw [entB_len]; omega)).mono ?_
  rintro e w' ⟨rfl, hb⟩
  refine ⟨⟨str (getV (J col) (entB (r.at col) k)), ?_⟩, hb⟩
  rw [show getE (J col) (entB (r.at col) k) = 0 by unfold getE; rw [if_pos (entB_64 _ hk), (hok.idx col hc).has hm]; rfl]
set_option maxHeartbeats 2000000 in
theorem indexed_yes (h : Tab w T p Q most o l) (k : List Nat) (r : Ro) (hm : (k, r) ∈ l) :
    Calls Try.prog 34 #[.pointer (some ⟨T, 0, none⟩), .string (str k), .agg #[.int .i64 r.a, .int .i64 r.b, .int .i64 r.c, .int .i64 r.d]] w fun e w' => e = .returned (.bool true) ∧ Below w.heap.size w w' := by
  have hle := h.le
  obtain ⟨J, hT, hok, _⟩ := h
  have hk := hok.rows.key _ hm
  have hro := hok.rows.ok _ hm
  dsimp only at hk hro
  obtain ⟨wa, HWA⟩ : ∃ wa, Hid (wa = w.alloc (.cells #[.int .i64 r.a, .int .i64 r.b, .int .i64 r.c, .int .i64 r.d] 33)) := ⟨_, rfl⟩
  have HBA : Hid (Below w.heap.size w wa) := by rw [HWA.out]; exact (Below.refl _ _).alloc (Nat.le_refl _) _
  have HL : Hid (Lies wa w.heap.size r) := by rw [HWA.out]; exact Lies.new w r
  have HPR : Hid (PRow wa (.pointer (some ⟨w.heap.size, 0, none⟩)) (some r)) := LRow.prow (o := some r) ⟨_, rfl, HL.out⟩
  have HPN : Hid (PRow wa (.pointer none) none) := LRow.prow (o := none) rfl
  have HTA := hid (hT.below HBA.out)
  have HM := hid hm
  have HOK := hid hok
  have HK := hid hk
  have HRO := hid hro
  have hce := checkE_yes hk
  clear hT hok hm hk hro
  go_enter Try.func34, Try.ntmps34
  go_wp2_with fail
  rw [← HWA.out]
  refine (changes_any wa k _ _ none (some r) HPN.out HPR.out).mono ?_
  rw [hce, if_pos HK.out]
  rintro e w2 ⟨u, rfl, hu, hb2, hf2⟩
  obtain ⟨A, n, cp, rfl⟩ := hu.form
  have hn := hu.cap.1
  obtain ⟨L, HLL⟩ : ∃ L, Hid (L = upto none (some r) 4) := ⟨_, rfl⟩
  have HCO : Hid (∀ g ∈ L, g.1 < 4 ∧ g.2.1 = r.at g.1) := fun g hg => by rw [HLL.out] at hg; exact upto_new r 4 (Nat.le_refl _) g hg
  have hL8 : L.length ≤ 8 := by rw [HLL.out]; exact upto_len _ _ 4
  rw [← HLL.out] at hu hn
  have HE := hid hu
  have HN := hid hn
  have hn8 : n ≤ 8 := by omega
  have HT2 := hid (HTA.out.below hb2)
  have HB2 := hid (below_step HBA.out hb2)
  clear hu hb2 hf2 hn hL8 hce
  go_wp2
  go_loopw [22] (fun i wr => ∃ j : Nat, j ≤ n ∧ i = .int .i64 j ∧ Below w2.heap.size w2 wr) (fun i _ => n - (intOf i).toNat)
  case atStart => exact ⟨0, by omega, rfl, Below.refl _ _⟩
  case round =>
    obtain ⟨j, hj, rfl, hbr⟩ := hrel
    have HBR := hid hbr
    clear hbr
    by_cases hlt : j < n
    · have hlti : (j : Int) < n := by omega
      obtain ⟨g, hg⟩ : ∃ g, L[j]? = some g := ⟨L[j]'(by have := HN.out; omega), List.getElem?_eq_getElem _⟩
      obtain ⟨col, x, a⟩ := g
      obtain ⟨ad, rfl, hat⟩ := (HE.out.below HBR.out).cat hg
      obtain ⟨q0, q1, q2, q3⟩ := hat
      dsimp only at q0 q1 q2 q3
      obtain ⟨hc4, hx⟩ := HCO.out _ (List.mem_of_getElem? hg)
      dsimp only at hc4 hx
      have hc0 : (0 : Int) ≤ (col : Int) := by omega
      have hc5 : (col : Int) < 5 := by omega
      have HX : Hid (I64 x) := by rw [hx]; exact HRO.out.at hc4
      have HXE := hid hx
      have HNA := hid (CAt.new (str k) wr col x a)
      obtain ⟨n0, n1, n2, n3⟩ := HNA.out
      dsimp only at n0 n1 n2 n3
      have HT3 := hid (HT2.out.below HBR.out)
      clear hg hx
      go_wp2_with fail
      refine (put_raw _ x k HX.out HK.out).mono ?_
      rintro e w3 ⟨rfl, hb3⟩
      have HBA3 : Hid (Below wr.heap.size wr w3) := below_step ((Below.refl _ _).alloc (Nat.le_refl _) (.cells #[.int .i64 (col : Int), .int .i64 x, .string (str k), .bool a] 113)) hb3
      have HN3 := hid (HNA.out.below hb3)
      clear hb3 n0 n1 n2 n3 q0 q1 q2 q3
      obtain ⟨n0, n1, n2, n3⟩ := HN3.out
      dsimp only at n0 n1 n2 n3
      have HT4 := hid (HT3.out.below HBA3.out)
      have cc := HT4.out.cp (i := col) (by omega)
      have HG : Hid (Calls Try.prog 42 #[.pointer (some ⟨p col, 0, none⟩), .string (str (entB x k))] w3.drew fun e w' => (∃ s, e = .returned (.tuple #[.string s, .int .i64 0])) ∧ Below w3.drew.heap.size w3.drew w') := by
        rw [HXE.out]
        exact tget_at (HT4.out.below (below_drew' _)) HOK.out hle hc4 HM.out
      go_wp2_with fail
      go_region_held3 (fun W => W.cell? ⟨wr.heap.size, 0, none⟩ = some (.int .i64 (col : Int)) ∧ W.cell? ⟨T, 1 + col, none⟩ = some (.pointer (some ⟨p col, 0, none⟩))) (first | exact ⟨n0, cc⟩ | exact HS4.out)
        (first | (go_at_call 42; ((with_reducible refine HG.out.mono ?_); rintro e w4 ⟨⟨s4, rfl⟩, hb4⟩; have HB4 := hid hb4; have HS4 : Hid (w4.cell? ⟨wr.heap.size, 0, none⟩ = some (.int .i64 (col : Int)) ∧ w4.cell? ⟨T, 1 + col, none⟩ = some (.pointer (some ⟨p col, 0, none⟩))) := ⟨below_keep hb4 _ _ n0, below_keep hb4 _ _ cc⟩; clear hb4)))
      go_wp2
      go_roundw
      case rel => exact ⟨j + 1, by omega, by go_num, below_step (below_step HBR.out HBA3.out).drew HB4.out⟩
      case measure => simp [intOf]; omega
    · obtain rfl : j = n := by omega
      go_wp2
      go_ret
      exact ⟨rfl, below_step HB2.out HBR.out⟩
/-- Between two rounds of Check's range. -/
def CheckK (w : World) (T : Nat) (_pre : List KR) (_K : Bl) (W : World) : Prop :=
  (W.cell? ⟨w.heap.size, 0, none⟩ = some (.pointer (some ⟨T, 0, none⟩)) ∧ W.cell? ⟨w.heap.size + 1, 0, none⟩ = some (.bool false) ∧ W.frozen? ⟨w.heap.size + 1, 0, none⟩ = false) ∧ Below w.heap.size w W
theorem checkK_abide {w : World} {T : Nat} : Abide (w.heap.size + 2) (CheckK w T) := by
  rintro s K A A' row ⟨⟨h0, h1, h1f⟩, hB⟩ hg hr K' hK'
  have hsz : w.heap.size + 1 < A.heap.size := blk_lt h1
  have hA : Below (w.heap.size + 2) A A' := (Below.refl _ _).grown hg hsz fun k e => (hr k e).1
  exact ⟨⟨(hA.cell (by show w.heap.size < _; omega)).trans h0, (hA.cell (by show w.heap.size + 1 < _; omega)).trans h1, (hA.frozen (by show w.heap.size + 1 < _; omega)).trans h1f⟩, hB.grown hg hB.size fun k e => by have := (hr k e).1; omega⟩
theorem CheckK.below {pre : List KR} {K : Bl} {W W' : World} (h : CheckK w T pre K W) (hb : Below W.heap.size W W') : CheckK w T pre K W' := by
  obtain ⟨⟨h0, h1, h1f⟩, hB⟩ := h
  exact ⟨⟨below_keep hb _ _ h0, below_keep hb _ _ h1, (hb.frozen (p := ⟨w.heap.size + 1, 0, none⟩) (blk_lt h1)).trans h1f⟩, below_step hB hb⟩
theorem idx5 (p : Nat → Nat) : (∀ W : World, (Instr.index 70 (.agg #[.pointer (some ⟨p 0, 0, none⟩), .pointer (some ⟨p 1, 0, none⟩), .pointer (some ⟨p 2, 0, none⟩), .pointer (some ⟨p 3, 0, none⟩), .pointer (some ⟨p 4, 0, none⟩)]) (.int .i64 0)).run Try.prog W = .ok (.pointer (some ⟨p 0, 0, none⟩)) W) ∧
    (∀ W : World, (Instr.index 70 (.agg #[.pointer (some ⟨p 0, 0, none⟩), .pointer (some ⟨p 1, 0, none⟩), .pointer (some ⟨p 2, 0, none⟩), .pointer (some ⟨p 3, 0, none⟩), .pointer (some ⟨p 4, 0, none⟩)]) (.int .i64 1)).run Try.prog W = .ok (.pointer (some ⟨p 1, 0, none⟩)) W) ∧
    (∀ W : World, (Instr.index 70 (.agg #[.pointer (some ⟨p 0, 0, none⟩), .pointer (some ⟨p 1, 0, none⟩), .pointer (some ⟨p 2, 0, none⟩), .pointer (some ⟨p 3, 0, none⟩), .pointer (some ⟨p 4, 0, none⟩)]) (.int .i64 2)).run Try.prog W = .ok (.pointer (some ⟨p 2, 0, none⟩)) W) ∧
    (∀ W : World, (Instr.index 70 (.agg #[.pointer (some ⟨p 0, 0, none⟩), .pointer (some ⟨p 1, 0, none⟩), .pointer (some ⟨p 2, 0, none⟩), .pointer (some ⟨p 3, 0, none⟩), .pointer (some ⟨p 4, 0, none⟩)]) (.int .i64 3)).run Try.prog W = .ok (.pointer (some ⟨p 3, 0, none⟩)) W) ∧
    (∀ W : World, (Instr.index 70 (.agg #[.pointer (some ⟨p 0, 0, none⟩), .pointer (some ⟨p 1, 0, none⟩), .pointer (some ⟨p 2, 0, none⟩), .pointer (some ⟨p 3, 0, none⟩), .pointer (some ⟨p 4, 0, none⟩)]) (.int .i64 4)).run Try.prog W = .ok (.pointer (some ⟨p 4, 0, none⟩)) W) :=
  ⟨fun _ => by kernel_rfl, fun _ => by kernel_rfl, fun _ => by kernel_rfl, fun _ => by kernel_rfl, fun _ => by kernel_rfl⟩
set_option maxHeartbeats 2000000 in
theorem check_yes (h : Tab w T p Q most o l) : Calls Try.prog 13 #[.pointer (some ⟨T, 0, none⟩)] w fun e w' => e = .returned (.bool true) ∧ Below w.heap.size w w' := by
  have HT := hid h
  have hsz := h.le
  obtain ⟨J, hT, hok, _⟩ := h
  have HB0 : Hid (Below w.heap.size w ((w.alloc (.cells #[.pointer (some ⟨T, 0, none⟩)] 27)).alloc (.cells #[.bool false] 4))) := ((Below.refl _ w).alloc (Nat.le_refl _) _).alloc (by simp) _
  obtain ⟨wb, HWB⟩ : ∃ W, Hid (W = (w.alloc (.cells #[.pointer (some ⟨T, 0, none⟩)] 27)).alloc (.cells #[.bool false] 4)) := ⟨_, rfl⟩
  have hTb := hT.below HB0.out
  have q1 := hTb.cp (i := 0) (by omega)
  have q2 := hTb.cp (i := 1) (by omega)
  have q3 := hTb.cp (i := 2) (by omega)
  have q4 := hTb.cp (i := 3) (by omega)
  have q5 := hTb.cp (i := 4) (by omega)
  have HCK : Hid (CheckK w T [] (fun _ => False) wb) := by
    rw [HWB.out]
    have c1 := (cellNew (w.alloc (.cells #[.pointer (some ⟨T, 0, none⟩)] 27)) (.bool false) 4).1
    have f1 := (cellNew (w.alloc (.cells #[.pointer (some ⟨T, 0, none⟩)] 27)) (.bool false) 4).2
    rw [World.size_alloc] at c1 f1
    exact ⟨⟨cellPast _ (cellNew w (.pointer (some ⟨T, 0, none⟩)) 27).1, c1, f1⟩, HB0.out⟩
  obtain ⟨n, HN⟩ : ∃ n, Hid (n = l.length) := ⟨_, rfl⟩
  have HLT : Hid (∀ i, i < 5 → ∀ W', Below w.heap.size w W' → Calls Try.prog 32 #[.pointer (some ⟨p i, 0, none⟩)] W' fun e w2 => e = .returned (.int .i64 (n : Int)) ∧ Below W'.heap.size W' w2) := fun i hi W' hb => by
    have := ((hT.below hb).t i hi).len
    rwa [hok.len hi, ← HN.out] at this
  have HLN : Hid (∀ W', Below w.heap.size w W' → Calls Try.prog 16 #[.pointer (some ⟨T, 0, none⟩)] W' fun e w2 => e = .returned (.int .i64 (n : Int)) ∧ Below W'.heap.size W' w2) := fun W' hb => by
    rw [HN.out]
    refine (tlen (HT.out.below hb)).mono ?_
    rintro e w2 ⟨h, rfl⟩
    exact ⟨h, Below.refl _ _⟩
  clear hT hok hTb
  refine (callsIn_wide (n := 3)).1 ?_
  refine callsIn_of_wp_marks Try.func13 rfl trivial ?_ rfl
  simp only [Try.ntmps13, List.size_toArray, List.length_cons, List.length_nil, Nat.reduceAdd, Nat.reduceSub, Array.replicate_succ, Array.replicate_zero, List.push_toArray, List.append_toArray, List.nil_append, List.cons_append]
  refine wpIn_wide.2 ?_
  go_wp2
  rw [← HWB.out]
  go_loopw [13] (fun i wr => ∃ j : Nat, j ≤ 5 ∧ i = .int .i64 j ∧ Below wb.heap.size wb wr) (fun i _ => 5 - (intOf i).toNat)
  case atStart => exact ⟨0, by omega, rfl, Below.refl _ _⟩
  case round =>
    obtain ⟨j, hj, rfl, hbr⟩ := hrel
    have HCR := hid (HCK.out.below hbr)
    obtain ⟨⟨t0, t1, t1f⟩, hbw⟩ := HCR.out
    have HBW := hid hbw
    have HBR := hid hbr
    clear hbr hbw q1 q2 q3 q4 q5
    by_cases hlt : j < 5
    · obtain ⟨hx0, hx1, hx2, hx3, hx4⟩ := idx5 p
      rcases (by omega : j = 0 ∨ j = 1 ∨ j = 2 ∨ j = 3 ∨ j = 4) with rfl | rfl | rfl | rfl | rfl
      all_goals
        go_wp2_with fail
        go_region_held3 (fun W => W.cell? ⟨w.heap.size, 0, none⟩ = some (.pointer (some ⟨T, 0, none⟩))) (first | exact t0 | exact HS4.out | exact HS5.out)
          (first
            | (go_at_call 16; ((with_reducible refine (HLN.out _ (below_step HBW.out.drew HB4.out)).mono ?_); rintro e w5 ⟨rfl, hb5⟩; have HB5 := hid (below_step HB4.out hb5); have HS5 : Hid (w5.cell? ⟨w.heap.size, 0, none⟩ = some (.pointer (some ⟨T, 0, none⟩))) := below_keep hb5 _ _ HS4.out; clear hb5))
            | (go_at_call 32; ((with_reducible refine (HLT.out _ (by decide) _ HBW.out.drew).mono ?_); rintro e w4 ⟨rfl, hb4⟩; have HB4 := hid hb4; have HS4 : Hid (w4.cell? ⟨w.heap.size, 0, none⟩ = some (.pointer (some ⟨T, 0, none⟩))) := below_keep hb4 _ _ t0; clear hb4)))
        go_wp2
        go_roundw
        case rel => first | exact ⟨1, by decide, by go_num, below_step HBR.out.drew HB5.out⟩ | exact ⟨2, by decide, by go_num, below_step HBR.out.drew HB5.out⟩ | exact ⟨3, by decide, by go_num, below_step HBR.out.drew HB5.out⟩ | exact ⟨4, by decide, by go_num, below_step HBR.out.drew HB5.out⟩ | exact ⟨5, by decide, by go_num, below_step HBR.out.drew HB5.out⟩
        case measure => simp [intOf]
    · obtain rfl : j = 5 := by omega
      go_wp2_with fail
      refine (tall (HT.out.below HBW.out)).mono ?_
      rintro e w1 ⟨gf, lb, G1, rfl, hb1, hw1, hGQ⟩
      have HC1 := hid (HCR.out.below hb1)
      have hw1s : w.heap.size + 2 ≤ w1.heap.size := blk_lt HC1.out.1.2.1
      clear hb1 t0 t1 t1f
      go_wp2
      refine (wpIn_wide (n := 3)).1 ?_
      refine range_own (gf := gf) (lb := lb) rfl hw1.en hw1.gives (w0 := w1) (Stay.refl _ _) (fun _ => rfl) (CheckK w T) (fun _ _ _ _ => False) (fun s K A A' row hi hg hr K' hK' => checkK_abide s K A A' row hi hg (fun r e => ⟨Nat.le_trans hw1s (hr r e).1, (hr r e).2⟩) K' hK') (fun _ _ _ _ _ _ h => h.elim) G1 (fun _ h => h) hw1.lt
        HC1.out ?round ?done ?stop
      case stop =>
        rintro D c pre K W _ h
        exact h.elim
      case round =>
        rintro lq pre x K W m hI hKW hKl hlq hpre
        dsimp only [encK, rowv, rowc]
        gi_wp2
        obtain ⟨Wa, HWA⟩ : ∃ Wa, Hid (Wa = W.alloc (.cells #[.int .i64 x.2.a, .int .i64 x.2.b, .int .i64 x.2.c, .int .i64 x.2.d] 33)) := ⟨_, rfl⟩
        rw [← HWA.out]
        have hba : Below W.heap.size W Wa := by rw [HWA.out]; exact (Below.refl _ _).alloc (Nat.le_refl _) _
        have hrow : Wa.heap[W.heap.size]? = some (.cells #[.int .i64 x.2.a, .int .i64 x.2.b, .int .i64 x.2.c, .int .i64 x.2.d] 33 (0, 0)) := by rw [HWA.out]; exact heap_alloc_new W _
        refine ⟨Stay.of_below hba hKW, fun W2 hg2 => ?_⟩
        have hlW := hKW lq hKl
        have hI2 := checkK_abide pre K Wa W2 (some lq) (hI.below hba) hg2 (fun r e => by injection e with e; subst e; exact ⟨by omega, hKl⟩) K fun b h => .inl h
        have hrow2 : W2.heap[W.heap.size]? = some (.cells #[.int .i64 x.2.a, .int .i64 x.2.b, .int .i64 x.2.c, .int .i64 x.2.d] 33 (0, 0)) := (hg2.block _ (Array.getElem?_eq_some_iff.1 hrow).1 (by intro e; injection e with e; omega)).trans hrow
        have HKS : Hid (∀ b, K b → b < W2.heap.size) := fun b hb => Nat.lt_of_lt_of_le (hKW b hb) (Nat.le_trans hba.size hg2.size)
        have r0 := cell_of_row W2 W.heap.size 0 _ _ _ hrow2
        have r1 := cell_of_row W2 W.heap.size 1 _ _ _ hrow2
        have r2 := cell_of_row W2 W.heap.size 2 _ _ _ hrow2
        have r3 := cell_of_row W2 W.heap.size 3 _ _ _ hrow2
        simp at r0 r1 r2 r3
        have HI2 := hid hI2
        obtain ⟨⟨h0, h1, h1f⟩, hB⟩ := hI2
        have HBW := hid hB
        have HXM : Hid ((x.1, x.2) ∈ l) := hpre.subset (by simp)
        clear hI hg2 hrow hrow2 hba hB hpre
        gi_wp2
        refine ⟨trivial, fun h => (by cases h), ?_⟩
        refine (CallsIn.inRound lq (callsIn_wide.2 (indexed_yes (HT.out.below HBW.out) x.1 x.2 HXM.out))).mono ?_
        rintro e w3 ⟨rfl, hb3⟩
        have HEND : Hid (Stay K W2 w3 ∧ CheckK w T (pre ++ [x]) K w3) := ⟨Stay.of_below hb3 HKS.out, HI2.out.below hb3⟩
        clear hb3
        gi_wp2
        exact HEND.out
      case done =>
        rintro D Kd W ⟨⟨h0, h1, h1f⟩, hB⟩ _ _ hD hK
        have HBW := hid hB
        have hD' : w.heap.size ≤ D := by omega
        have HK' : Hid ((W.setCell ⟨w.heap.size + 1, 0, none⟩ (.bool true)).heap[D]? = some (.deferred (some []))) := (KeepsOthers.setCell W ⟨w.heap.size + 1, 0, none⟩ (.bool true)).same D _ hK rfl
        have hc5 := cell_kept (World.cell?_setCell_same' W ⟨w.heap.size + 1, 0, none⟩ (.bool true) (by rw [h1]; rfl)) (grownBy_putObj' _ D (.deferred none)) (fun r e => by cases e; exact ⟨_, HK'.out, rfl⟩)
        clear hB hK
        gi_wp2
        go_wp2
        refine ⟨by simp, .inl ⟨_, _, rfl, run_takeDeferred HK'.out, ?_⟩⟩
        refine ⟨.bool true, ?_, rfl, ?_⟩
        · simp [results, Try.f13, go_sem, hc5]
        · exact (HBW.out.setCell (p := ⟨w.heap.size + 1, 0, none⟩) (by show w.heap.size ≤ w.heap.size + 1; omega) _).trans (belowK_b (w := w) (Nat.le_refl _) _ D _ _ hD' HK'.out rfl rfl)
end
end Go.Proofs.Ytlnagdodnkhbmaa
