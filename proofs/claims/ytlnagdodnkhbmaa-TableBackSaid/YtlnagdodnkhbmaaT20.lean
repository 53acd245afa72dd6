/- The reference's Find. -/
import Derived.Test.YtlnagdodnkhbmaaT19
import Derived.Test.YtlnagdodnkhbmaaT9
namespace Go.Proofs.Ytlnagdodnkhbmaa
open Go.RowKit
set_option maxRecDepth 100000

theorem QAt.col {w : World} {a : Addr} {q : KR} (h : QAt w a q) {c : Nat} (hc : c < 4) : w.cell? { block := a.block, off := a.off + 1 + c, spot := none } = some (.int .i64 (q.2.at c)) := by
  obtain ⟨_, h1, h2, h3, h4⟩ := h
  match c with
  | 0 => exact h1
  | 1 => exact h2
  | 2 => exact h3
  | 3 => exact h4
  | c + 4 => omega
theorem qAt_new (w : World) (q : KR) : QAt (w.alloc (.cells #[.string (str q.1), .int .i64 q.2.a, .int .i64 q.2.b, .int .i64 q.2.c, .int .i64 q.2.d] 94)) ⟨w.heap.size, 0, none⟩ q :=
  ⟨cell_of_row _ _ 0 _ _ _ (heap_alloc_new w _), cell_of_row _ _ 1 _ _ _ (heap_alloc_new w _), cell_of_row _ _ 2 _ _ _ (heap_alloc_new w _), cell_of_row _ _ 3 _ _ _ (heap_alloc_new w _), cell_of_row _ _ 4 _ _ _ (heap_alloc_new w _)⟩
theorem QAt.drewN {w : World} {a : Addr} {q : KR} (h : QAt w a q) (n : Nat) : QAt (w.drewN n) a q := h.below (below_drewN' (Below.refl _ _) n)
theorem cmpE_lt {n m : Int} {a b : List Nat} (hn : I64 n) (hm : I64 m) : cmpE n a m b < 0 ↔ entB n a < entB m b := by
  have h := wv_lt hn hm a b
  show _ ↔ wv n ++ a < wv m ++ b
  rw [h]
  unfold cmpE
  by_cases h1 : n < m
  · rw [if_pos h1]; simp [h1]
  · rw [if_neg h1]
    by_cases h2 : m < n
    · rw [if_pos h2]
      constructor
      · intro h; omega
      · rintro (h | ⟨h, _⟩) <;> omega
    · rw [if_neg h2]
      have he : n = m := by omega
      unfold cmpL
      by_cases h3 : a < b
      · rw [if_pos h3]
        exact ⟨fun _ => .inr ⟨he, h3⟩, fun _ => by omega⟩
      · rw [if_neg h3]
        constructor
        · intro h4; split at h4 <;> omega
        · rintro (h4 | ⟨_, h4⟩)
          · omega
          · exact absurd h4 h3
theorem posC_of (c : Nat) (F : List KR) (x : KR) (n : Nat) (hn : n ≤ F.length) (h1 : ∀ (j : Nat) (q : KR), j < n → F[j]? = some q → entB (q.2.at c) q.1 < entB (x.2.at c) x.1) (h2 : ∀ q : KR, F[n]? = some q → ¬ entB (q.2.at c) q.1 < entB (x.2.at c) x.1) : posC c F x = n := by
  refine atN_of _ _ n (by rw [List.length_map]; exact hn) (fun j y hj hy => ?_) (fun y hy => ?_)
  · rw [List.getElem?_map] at hy
    cases hq : F[j]? with
    | none => rw [hq] at hy; cases hy
    | some q => rw [hq] at hy; cases hy; exact h1 j q hj hq
  · rw [List.getElem?_map] at hy
    cases hq : F[n]? with
    | none => rw [hq] at hy; cases hy
    | some q => rw [hq] at hy; cases hy; exact h2 q hq
/-- What has been found of the first rows. -/
def foundK (c : Nat) (lo hi : Int) (l : List KR) (k : Nat) : List KR := tellK c lo hi (l.take k)
theorem foundK_step {c : Nat} {lo hi : Int} {l : List KR} {k : Nat} {q : KR} (h : l[k]? = some q) : foundK c lo hi l (k + 1) = if inR c lo hi q then insC c (foundK c lo hi l k) q else foundK c lo hi l k := by
  unfold foundK tellK
  rw [List.take_add_one, h, List.filter_append, List.foldl_append]
  cases hq : inR c lo hi q <;> simp [hq]
theorem RowsOk.take {l : List KR} (h : RowsOk l) (k : Nat) : RowsOk (l.take k) :=
  ⟨h.rise.sublist (List.take_sublist _ _), fun q hq => h.byt q (List.mem_of_mem_take hq), fun q hq => h.key q (List.mem_of_mem_take hq), fun q hq => h.ok q (List.mem_of_mem_take hq)⟩
theorem foundK_mem {l : List KR} (h : RowsOk l) {c : Nat} {lo hi : Int} {k : Nat} {q : KR} (hq : q ∈ foundK c lo hi l k) : q ∈ l := List.mem_of_mem_take ((tellK_mem (h.take k)).1 hq).1
theorem foundK_len {l : List KR} (h : RowsOk l) (c : Nat) (lo hi : Int) (k : Nat) : (foundK c lo hi l k).length ≤ l.length := by
  have h1 := tellK_len (h.take k) c lo hi
  unfold foundK
  simp at h1; omega
structure OutRel (W : World) (lo hi : Int) (F : List KR) (v : Value) (wr : World) : Prop where
  f : OwnElems 5 cQ 94 wr W.heap.size v F
  b : Below W.heap.size W wr
  t : wr.heap[W.heap.size]? = some (.cells #[.int .i64 lo, .int .i64 hi] 40 (0, 0))
theorem OutRel.drewN {W : World} {lo hi : Int} {F : List KR} {v : Value} {wr : World} (h : OutRel W lo hi F v wr) (n : Nat) : OutRel W lo hi F v (wr.drewN n) := ⟨h.f.keep fun _ _ => rfl, below_drewN' h.b n, h.t⟩
theorem OutRel.below {W : World} {lo hi : Int} {F : List KR} {v : Value} {wr w' : World} (h : OutRel W lo hi F v wr) (hb : Below wr.heap.size wr w') : OutRel W lo hi F v w' := ⟨h.f.keep fun b hbm => hb.block b (h.f.lt b hbm).2, below_step h.b hb, (hb.block _ (Array.getElem?_eq_some_iff.1 h.t).1).trans h.t⟩
theorem OwnElems.same_below {w w' : World} {base : Nat} {e : TypeId} {v : Value} {l : List KR} (h : OwnElems 5 cQ e w base v l) (hb : Below w.heap.size w w') : OwnElems 5 cQ e w' base v l := h.keep fun b hbm => hb.block b (h.lt b hbm).2
/-- What the reference's Find leaves. -/
def RFindEnd (w : World) (L : List (List Nat)) (e : Ending) (w' : World) : Prop := ∃ v, e = .returned v ∧ OwnElems 1 cT 9 w' w.heap.size v L ∧ Below w.heap.size w w'
set_option maxHeartbeats 4000000 in
theorem rfind {w : World} {F : List Nat} {p most : Nat} {l : List KR} (hR : RTab w F p most l) (hok : RowsOk l) (hsz : l.length ≤ 1024) (c : Nat) (hc : c < 4) (lo hi : Int) (m : Nat) (hm : m ≤ 9223372036854775807) :
    Calls Try.prog 35 #[.pointer (some ⟨p, 0, none⟩), .int .i64 (c : Int), .agg #[.int .i64 lo, .int .i64 hi], .int .i64 (m : Int)] w (RFindEnd w (findL c lo hi m l)) := by
  obtain ⟨i0, hi0, hz0, hs0, hy0⟩ := info_parts qinfo
  obtain ⟨it, hit, hzt, hst, hyt⟩ := info_parts info_text
  obtain ⟨u, h1, h2, _, _, _⟩ := hR
  obtain ⟨A, cap, rfl⟩ := h2.slice
  obtain ⟨len, HLEN⟩ : ∃ len, Hid (len = l.length) := ⟨_, rfl⟩
  have hpw := cell_of_row _ p 0 _ _ _ h1
  simp at hpw
  rw [← HLEN.out] at hpw
  have hlm : len ≤ 1024 := by rw [HLEN.out]; exact hsz
  have HP := hid hpw
  have HL := hid h2
  have HOK := hid hok
  rw [← HLEN.out] at HL
  have hci : (c : Int) < 4 := by omega
  have hc0 : (0 : Int) ≤ (c : Int) := by omega
  have HST : Hid (OutRel w lo hi (foundK c lo hi l 0) (.slice none 0 0) (w.alloc (.cells #[.int .i64 lo, .int .i64 hi] 40))) := ⟨OwnElems.nil _ _ _ _ _, (Below.refl _ _).alloc (Nat.le_refl _) _, heap_alloc_new w _⟩
  clear h1 h2 hpw hok hsz
  go_enter Try.func35, Try.ntmps35
  go_wp2
  go_loopw [9, 10] (fun v i wr => ∃ k : Nat, k ≤ len ∧ i = .int .i64 k ∧ OutRel w lo hi (foundK c lo hi l k) v wr) (fun _ i _ => len - (intOf i).toNat)
  case atStart => exact ⟨0, by omega, rfl, HST.out⟩
  case round =>
    obtain ⟨k, hk, rfl, hJ⟩ := hrel
    have HJ := hid hJ
    obtain ⟨Af, nf, cf, rfl⟩ := hJ.f.rows.form
    have hp := below_keep hJ.b _ _ HP.out
    clear hJ
    by_cases hlt : k < len
    · have hlti : (k : Int) < len := by omega
      obtain ⟨q, hq⟩ : ∃ q, l[k]? = some q := ⟨l[k]'(by have := HLEN.out; omega), List.getElem?_eq_getElem _⟩
      obtain ⟨ad, hA, hqa⟩ := HL.out.qat hq
      subst hA
      have HQA := hid (hqa.below HJ.out.b)
      obtain ⟨kx, r⟩ := q
      obtain ⟨d0, d1, d2, d3, d4⟩ := HQA.out
      dsimp only at d0 d1 d2 d3 d4
      have HSTEP := hid (foundK_step (c := c) (lo := lo) (hi := hi) hq)
      have hqm := List.mem_of_getElem? hq
      have HXO : Hid (I64 (r.at c)) := (HOK.out.ok _ hqm).at hc
      have HXB : Hid (Byt kx) := HOK.out.byt _ hqm
      have hxk : kx.length ≤ 1000000 := by have h := (keyB_yes (HOK.out.key _ hqm)).2.2; dsimp only at h; omega
      obtain ⟨x, HX⟩ : ∃ x, Hid (x = r.at c) := ⟨_, rfl⟩
      have HNA := hid (qAt_new wr (kx, r))
      have hxc := HNA.out.col hc
      obtain ⟨e0, e1, e2, e3, e4⟩ := HNA.out
      have t0 := cell_of_row _ _ 0 _ _ _ HJ.out.t
      have t1 := cell_of_row _ _ 1 _ _ _ HJ.out.t
      have t0 := below_keep ((Below.refl wr.heap.size wr).alloc (Nat.le_refl _) (.cells #[.string (str kx), .int .i64 r.a, .int .i64 r.b, .int .i64 r.c, .int .i64 r.d] 94)) _ _ t0
      have t1 := below_keep ((Below.refl wr.heap.size wr).alloc (Nat.le_refl _) (.cells #[.string (str kx), .int .i64 r.a, .int .i64 r.b, .int .i64 r.c, .int .i64 r.d] 94)) _ _ t1
      simp at t0 t1
      dsimp only at e0 e1 e2 e3 e4 hxc
      rw [← HX.out] at hxc HXO
      clear hqa hq hqm
      by_cases hxl : x < lo
      · have hd : decide (x < lo) = true := decide_eq_true hxl
        have HSK : Hid (foundK c lo hi l (k + 1) = foundK c lo hi l k) := by
          show _ = _
          rw [HSTEP.out, if_neg]
          unfold inR; dsimp only; rw [← HX.out]; simp; omega
        go_wp2
        go_quiet (fail)
        go_wp2
        go_roundw
        case rel => exact ⟨k + 1, by omega, by go_num, by rw [HSK.out]; exact (HJ.out.below ((Below.refl _ _).alloc (Nat.le_refl _) _)).drewN _⟩
        case measure => simp [intOf]; omega
      · have hd : decide (x < lo) = false := decide_eq_false hxl
        by_cases hxh : hi < x
        · have hd2 : decide (hi < x) = true := decide_eq_true hxh
          have HSK : Hid (foundK c lo hi l (k + 1) = foundK c lo hi l k) := by
            show _ = _
            rw [HSTEP.out, if_neg]
            unfold inR; dsimp only; rw [← HX.out]; simp; omega
          go_wp2
          go_quiet (fail)
          go_wp2
          go_roundw
          case rel => exact ⟨k + 1, by omega, by go_num, by rw [HSK.out]; exact (HJ.out.below ((Below.refl _ _).alloc (Nat.le_refl _) _)).drewN _⟩
          case measure => simp [intOf]; omega
        · have hd2 : decide (hi < x) = false := decide_eq_false hxh
          have HSK : Hid (foundK c lo hi l (k + 1) = insC c (foundK c lo hi l k) (kx, r)) := by
            show _ = _
            rw [HSTEP.out, if_pos]
            unfold inR; dsimp only; rw [← HX.out]; simp; omega
          go_wp2
          go_quiet (fail)
          rename_i nq
          obtain ⟨ws, HWS⟩ : ∃ ws, Hid (ws = (wr.alloc (.cells #[.string (str kx), .int .i64 r.a, .int .i64 r.b, .int .i64 r.c, .int .i64 r.d] 94)).drewN nq) := ⟨_, rfl⟩
          have HBS : Hid (Below wr.heap.size wr ws) := by rw [HWS.out]; exact below_drewN' ((Below.refl _ _).alloc (Nat.le_refl _) _) nq
          have HXS : Hid (QAt ws ⟨wr.heap.size, 0, none⟩ (kx, r)) := by rw [HWS.out]; exact HNA.out.drewN nq
          have HJS := hid (HJ.out.below HBS.out)
          rw [← HWS.out]
          obtain ⟨FF, HFF⟩ : ∃ FF, Hid (FF = foundK c lo hi l k) := ⟨_, rfl⟩
          have HFM : Hid (∀ y ∈ FF, y ∈ l) := fun y hy => by rw [HFF.out] at hy; exact foundK_mem HOK.out hy
          have HSZ : Hid (FF.length ≤ 1024) := by show _ ≤ _; rw [HFF.out]; have := foundK_len HOK.out c lo hi k; have := HLEN.out; omega
          rw [← HFF.out] at HJS HSK
          have HNF : Hid (nf = FF.length) := HJS.out.f.rows.cap.1
          have hnf : nf ≤ 1024 := by have := HSZ.out; have := HNF.out; omega
          clear e0 e1 e2 e3 e4 hxc t0 t1 hp d0 d1 d2 d3 d4 hd hd2
          go_wp2
          go_loopw [12] (fun i w' => ∃ j : Nat, j ≤ nf ∧ i = .int .i64 j ∧ Hid (∀ (i : Nat) (y : KR), i < j → FF[i]? = some y → entB (y.2.at c) y.1 < entB (r.at c) kx) ∧ ∃ mm, w' = ws.drewN mm) (fun i _ => nf - (intOf i).toNat)
          case atStart => exact ⟨0, by omega, rfl, fun i y hi => by omega, 0, rfl⟩
          case round =>
            obtain ⟨j, hjn, rfl, HPJ, mm, rfl⟩ := hrel
            have HXQ := hid (HXS.out.drewN mm)
            have hxc := HXS.out.col hc
            have hxk0 := HXS.out.1
            dsimp only at hxc hxk0
            rw [← HX.out] at hxc
            have HFIN : Hid (∀ wv : World, wv = ws.drewN mm → (∀ y : KR, FF[j]? = some y → ¬ entB (y.2.at c) y.1 < entB (r.at c) kx) → posC c FF (kx, r) = j) := fun _ _ hno => posC_of c FF (kx, r) j (by have := HNF.out; omega) HPJ.out hno
            by_cases hjlt : j < nf
            · have hji : (j : Int) < nf := by omega
              obtain ⟨y, hy⟩ : ∃ y, FF[j]? = some y := ⟨FF[j]'(by have := HNF.out; omega), List.getElem?_eq_getElem _⟩
              obtain ⟨adf, hAf, hya⟩ := HJS.out.f.rows.qat hy
              subst hAf
              have hyc := hya.col hc
              have hyk := hya.1
              have hym := HFM.out y (List.mem_of_getElem? hy)
              have HYO : Hid (I64 (y.2.at c)) := (HOK.out.ok _ hym).at hc
              have HYB : Hid (Byt y.1) := HOK.out.byt _ hym
              have hyl : y.1.length ≤ 1000000 := by have h := (keyB_yes (HOK.out.key _ hym)).2.2; omega
              obtain ⟨E, HE⟩ : ∃ E, Hid (E = cmpE (y.2.at c) y.1 x kx) := ⟨_, rfl⟩
              have HCMP : Hid (∀ W : World, Calls Try.prog 54 #[.int .i64 (y.2.at c), .string (str y.1), .int .i64 x, .string (str kx)] W fun e w' => e = .returned (.int .i64 E) ∧ ∃ n, w' = W.drewN n) := fun W => by rw [HE.out]; exact refcompare_any W _ _ _ _ HYB.out HXB.out hyl hxk
              have HEL : Hid (E < 0 ↔ entB (y.2.at c) y.1 < entB (r.at c) kx) := by show _ ↔ _; rw [HE.out, ← HX.out]; exact cmpE_lt HYO.out HXO.out
              obtain ⟨yv, HYV⟩ : ∃ yv, Hid (yv = y.2.at c) := ⟨_, rfl⟩
              rw [← HYV.out] at hyc HCMP
              have HY := hid hy
              clear hya hy hym
              by_cases hE : E < 0
              · have HPN : Hid (∀ (i : Nat) (z : KR), i < j + 1 → FF[i]? = some z → entB (z.2.at c) z.1 < entB (r.at c) kx) := fun i z hi hz => by
                  rcases Nat.lt_or_ge i j with h | h
                  · exact HPJ.out i z h hz
                  · obtain rfl : i = j := by omega
                    have := HY.out
                    rw [hz] at this
                    injection this with this
                    subst this
                    exact HEL.out.1 hE
                have hEd : decide (E < 0) = true := decide_eq_true hE
                go_wp2
                go_quiet (first | (go_at_call 54; refine (HCMP.out _).mono ?_; rintro e w' ⟨he, n, hn⟩; exact ⟨he, _, by rw [hn, World.drewN_drewN, Nat.add_assoc]⟩))
                go_wp2
                go_roundw
                case rel => exact ⟨j + 1, by omega, by go_num, HPN.out, _, rfl⟩
                case measure => simp [intOf]; omega
              · have hEd : decide (E < 0) = false := decide_eq_false hE
                have HPOS : Hid (posC c FF (kx, r) = j) := HFIN.out _ rfl fun z hz => by
                  have := HY.out
                  rw [hz] at this
                  injection this with this
                  subst this
                  exact fun h => hE (HEL.out.2 h)
                have hjf : j ≤ nf := by omega
                go_wp2
                go_quiet (first | (go_at_call 54; refine (HCMP.out _).mono ?_; rintro e w' ⟨he, n, hn⟩; exact ⟨he, _, by rw [hn, World.drewN_drewN, Nat.add_assoc]⟩))
                obtain ⟨wq, HWQ⟩ : ∃ wq, Hid (wq = (ws.drewN mm).drewN nq) := ⟨_, rfl⟩
                have HBQ : Hid (Below ws.heap.size ws wq) := by rw [HWQ.out]; exact below_drewN' (below_drewN' (Below.refl _ _) _) _
                have HXQ2 := hid (HXS.out.below HBQ.out)
                have HJQ := hid (HJS.out.below HBQ.out)
                first | rw [← HWQ.out] | (rw [World.drewN_drewN] at HWQ; rw [← HWQ.out])
                obtain ⟨VA, HVA⟩ : ∃ V, Hid (V = sliced (some adf) 0 j cf 5) := ⟨_, rfl⟩
                obtain ⟨VC, HVC⟩ : ∃ V, Hid (V = sliced (some adf) j nf cf 5) := ⟨_, rfl⟩
                have hcap := HJQ.out.f.rows.cap
                have hcA : ∀ W, (Instr.slice 66 (.slice (some adf) nf cf) none (some (.int .i64 (j : Int))) none).run Try.prog W = .ok VA W := fun W => by rw [HVA.out]; exact qcut_to W (some adf) nf cf j (by have := HNF.out; omega)
                have hcC : ∀ W, (Instr.slice 66 (.slice (some adf) nf cf) (some (.int .i64 (j : Int))) none none).run Try.prog W = .ok VC W := fun W => by rw [HVC.out]; exact qcut_from W (some adf) nf cf j hjf
                have HRA : Hid (Elems 5 cQ wq VA (FF.take j)) := by rw [HVA.out]; exact HJQ.out.f.rows.to_ cQ_len (by have := HNF.out; omega)
                have HRC : Hid (Elems 5 cQ wq VC (FF.drop j)) := by rw [HVC.out, HNF.out]; have h := HJQ.out.f.rows; rw [HNF.out] at h; exact h.from_ cQ_len (by have := HNF.out; omega)
                have HJN : Hid (j ≤ FF.length) := by show _ ≤ _; have := HNF.out; omega
                clear hcap hxc hxk0
                go_wp2_with (first
                  | (at_builtin; refine wpList_append_rows _ rfl (.tmp 85) (.tmp 88) 66 rfl wq.heap.size 94 i0 _ 5 48 Try.underlying66 hi0 hz0 hs0 hy0 rfl (by omega) cQ_one v2 _ rfl HO2.out _ _ rfl (HRC.out.below HB2.out) (by have := HSZ.out; have := HJN.out; simp [maxLen]; omega) (by have := HSZ.out; have := HJN.out; simp; omega) HB2.out.size ?_; intro v3 w3 ho3 hg3 hf3; obtain ⟨A3, N3, c3, rfl⟩ := (OwnElems.rows ho3).form; have HO3 := hid ho3; have HB3 := hid (HB2.out.grown hg3 HB2.out.size (fun g hg => (HO2.out.lt g (mem_ownFoot.2 hg)).1)); clear ho3 hg3 hf3)
                  | (at_builtin; refine wpList_append_rows _ rfl (.tmp 81) (.tmp 83) 66 rfl wq.heap.size 94 i0 _ 5 48 Try.underlying66 hi0 hz0 hs0 hy0 rfl (by omega) cQ_one v1 _ rfl (HO1.out.alloc _) _ _ rfl (rows_new w1 5 cQ cQ_len (kx, r) 94) (by have := HSZ.out; have := HJN.out; simp [maxLen]; omega) (by have := HSZ.out; have := HJN.out; simp; omega) (HB1.out.alloc HB1.out.size _).size ?_; intro v2 w2 ho2 hg2 hf2; have HO2 := hid ho2; have HB2 := hid ((HB1.out.alloc HB1.out.size _).grown hg2 (HB1.out.alloc HB1.out.size _).size (fun g hg => (HO1.out.lt g (mem_ownFoot.2 hg)).1)); clear ho2 hg2 hf2 y0 y1 y2 y3 y4)
                  | (at_builtin; refine wpList_append_rows _ rfl (.tmp 76) (.tmp 79) 66 rfl wq.heap.size 94 i0 _ 5 48 Try.underlying66 hi0 hz0 hs0 hy0 rfl (by omega) cQ_one (.slice none 0 0) _ rfl (OwnElems.nil _ _ _ _ _) _ _ rfl HRA.out (by have := HSZ.out; have := HJN.out; simp [maxLen]; omega) (by have := HSZ.out; have := HJN.out; simp; omega) (Nat.le_refl _) ?_; intro v1 w1 ho1 hg1 hf1; rw [List.nil_append] at ho1; have HO1 := hid ho1; have HB1 := hid ((Below.refl wq.heap.size wq).grown hg1 (Nat.le_refl _) (fun g hg => by simp [Value.ownBlock] at hg)); obtain ⟨y0, y1, y2, y3, y4⟩ := HXQ2.out.below HB1.out; dsimp only at y0 y1 y2 y3 y4; clear ho1 hg1 hf1))
                go_roundw
                case rel =>
                  refine ⟨k + 1, by omega, by go_num, ?_⟩
                  rw [HSK.out]
                  unfold insC
                  rw [HPOS.out]
                  have hbq := HB3.out
                  exact ⟨HO3.out.down_ HJQ.out.b.size, HJQ.out.b.trans (hbq.mono HJQ.out.b.size), (hbq.block _ (Array.getElem?_eq_some_iff.1 HJQ.out.t).1).trans HJQ.out.t⟩
                case measure => simp [intOf]; omega
            · have hji : ¬ (j : Int) < nf := by omega
              have hjd : decide ((j : Int) < (nf : Int)) = false := decide_eq_false hji
              have hjd2 : decide (j < nf) = false := decide_eq_false hjlt
              have HPOS : Hid (posC c FF (kx, r) = j) := HFIN.out _ rfl fun z hz => by
                have := (List.getElem?_eq_some_iff.1 hz).1
                have := HNF.out
                omega
              have hjf : j ≤ nf := by omega
              go_wp2
              go_quiet (fail)
              obtain ⟨wq, HWQ⟩ : ∃ wq, Hid (wq = (ws.drewN mm).drewN nq) := ⟨_, rfl⟩
              have HBQ : Hid (Below ws.heap.size ws wq) := by rw [HWQ.out]; exact below_drewN' (below_drewN' (Below.refl _ _) _) _
              have HXQ2 := hid (HXS.out.below HBQ.out)
              have HJQ := hid (HJS.out.below HBQ.out)
              first | rw [← HWQ.out] | (rw [World.drewN_drewN] at HWQ; rw [← HWQ.out])
              obtain ⟨VA, HVA⟩ : ∃ V, Hid (V = sliced Af 0 j cf 5) := ⟨_, rfl⟩
              obtain ⟨VC, HVC⟩ : ∃ V, Hid (V = sliced Af j nf cf 5) := ⟨_, rfl⟩
              have hcap := HJQ.out.f.rows.cap
              have hcA : ∀ W, (Instr.slice 66 (.slice Af nf cf) none (some (.int .i64 (j : Int))) none).run Try.prog W = .ok VA W := fun W => by rw [HVA.out]; exact qcut_to W Af nf cf j (by have := HNF.out; omega)
              have hcC : ∀ W, (Instr.slice 66 (.slice Af nf cf) (some (.int .i64 (j : Int))) none none).run Try.prog W = .ok VC W := fun W => by rw [HVC.out]; exact qcut_from W Af nf cf j hjf
              have HRA : Hid (Elems 5 cQ wq VA (FF.take j)) := by rw [HVA.out]; exact HJQ.out.f.rows.to_ cQ_len (by have := HNF.out; omega)
              have HRC : Hid (Elems 5 cQ wq VC (FF.drop j)) := by rw [HVC.out, HNF.out]; have h := HJQ.out.f.rows; rw [HNF.out] at h; exact h.from_ cQ_len (by have := HNF.out; omega)
              have HJN : Hid (j ≤ FF.length) := by show _ ≤ _; have := HNF.out; omega
              clear hcap hxc hxk0
              go_wp2_with (first
                | (at_builtin; refine wpList_append_rows _ rfl (.tmp 85) (.tmp 88) 66 rfl wq.heap.size 94 i0 _ 5 48 Try.underlying66 hi0 hz0 hs0 hy0 rfl (by omega) cQ_one v2 _ rfl HO2.out _ _ rfl (HRC.out.below HB2.out) (by have := HSZ.out; have := HJN.out; simp [maxLen]; omega) (by have := HSZ.out; have := HJN.out; simp; omega) HB2.out.size ?_; intro v3 w3 ho3 hg3 hf3; obtain ⟨A3, N3, c3, rfl⟩ := (OwnElems.rows ho3).form; have HO3 := hid ho3; have HB3 := hid (HB2.out.grown hg3 HB2.out.size (fun g hg => (HO2.out.lt g (mem_ownFoot.2 hg)).1)); clear ho3 hg3 hf3)
                | (at_builtin; refine wpList_append_rows _ rfl (.tmp 81) (.tmp 83) 66 rfl wq.heap.size 94 i0 _ 5 48 Try.underlying66 hi0 hz0 hs0 hy0 rfl (by omega) cQ_one v1 _ rfl (HO1.out.alloc _) _ _ rfl (rows_new w1 5 cQ cQ_len (kx, r) 94) (by have := HSZ.out; have := HJN.out; simp [maxLen]; omega) (by have := HSZ.out; have := HJN.out; simp; omega) (HB1.out.alloc HB1.out.size _).size ?_; intro v2 w2 ho2 hg2 hf2; have HO2 := hid ho2; have HB2 := hid ((HB1.out.alloc HB1.out.size _).grown hg2 (HB1.out.alloc HB1.out.size _).size (fun g hg => (HO1.out.lt g (mem_ownFoot.2 hg)).1)); clear ho2 hg2 hf2 y0 y1 y2 y3 y4)
                | (at_builtin; refine wpList_append_rows _ rfl (.tmp 76) (.tmp 79) 66 rfl wq.heap.size 94 i0 _ 5 48 Try.underlying66 hi0 hz0 hs0 hy0 rfl (by omega) cQ_one (.slice none 0 0) _ rfl (OwnElems.nil _ _ _ _ _) _ _ rfl HRA.out (by have := HSZ.out; have := HJN.out; simp [maxLen]; omega) (by have := HSZ.out; have := HJN.out; simp; omega) (Nat.le_refl _) ?_; intro v1 w1 ho1 hg1 hf1; rw [List.nil_append] at ho1; have HO1 := hid ho1; have HB1 := hid ((Below.refl wq.heap.size wq).grown hg1 (Nat.le_refl _) (fun g hg => by simp [Value.ownBlock] at hg)); obtain ⟨y0, y1, y2, y3, y4⟩ := HXQ2.out.below HB1.out; dsimp only at y0 y1 y2 y3 y4; clear ho1 hg1 hf1))
              go_roundw
              case rel =>
                refine ⟨k + 1, by omega, by go_num, ?_⟩
                rw [HSK.out]
                unfold insC
                rw [HPOS.out]
                have hbq := HB3.out
                exact ⟨HO3.out.down_ HJQ.out.b.size, HJQ.out.b.trans (hbq.mono HJQ.out.b.size), (hbq.block _ (Array.getElem?_eq_some_iff.1 HJQ.out.t).1).trans HJQ.out.t⟩
              case measure => simp [intOf]; omega
    · obtain rfl : k = len := by omega
      obtain ⟨FF, HFF⟩ : ∃ FF, Hid (FF = foundK c lo hi l k) := ⟨_, rfl⟩
      rw [← HFF.out] at HJ
      have HNF : Hid (nf = FF.length) := HJ.out.f.rows.cap.1
      have HRES : Hid (findL c lo hi m l = (FF.map Prod.fst).take m) := by
        show _ = _
        rw [HFF.out]
        unfold findL foundK
        rw [show l.take k = l from List.take_of_length_le (by have := HLEN.out; omega)]
      have HSZ : Hid (FF.length ≤ 1024) := by show _ ≤ _; rw [HFF.out]; have := foundK_len HOK.out c lo hi k; have := HLEN.out; omega
      have hnf : nf ≤ 1024 := by have := HSZ.out; have := HNF.out; omega
      obtain ⟨wa, rfl⟩ : ∃ wa, wa = wr := ⟨_, rfl⟩
      go_wp2
      go_loopw [14, 15] (fun v i wr => ∃ j : Nat, j ≤ nf ∧ j ≤ m ∧ i = .int .i64 j ∧ OwnElems 1 cT 9 wr wa.heap.size v ((FF.map Prod.fst).take j) ∧ Below wa.heap.size wa wr) (fun _ i _ => nf - (intOf i).toNat)
      case atStart => exact ⟨0, by omega, by omega, rfl, OwnElems.nil _ _ _ _ _, Below.refl _ _⟩
      case round =>
        obtain ⟨j, hjn, hjm, rfl, hown, hbw⟩ := hrel
        have HOWN := hid hown
        have HBW := hid hbw
        obtain ⟨Ao, no, co, rfl⟩ := hown.rows.form
        clear hown hbw
        by_cases hjlt : j < nf
        · have hji : (j : Int) < nf := by omega
          by_cases hjm2 : j < m
          · have hjmi : (j : Int) < m := by omega
            obtain ⟨y, hy⟩ : ∃ y, FF[j]? = some y := ⟨FF[j]'(by have := HNF.out; omega), List.getElem?_eq_getElem _⟩
            obtain ⟨adf, hAf, hya⟩ := (HJ.out.below HBW.out).f.rows.qat hy
            subst hAf
            have hyk := hya.1
            have HTK : Hid ((FF.map Prod.fst).take (j + 1) = (FF.map Prod.fst).take j ++ [y.1]) := by show _ = _; rw [List.take_add_one, List.getElem?_map, hy]; rfl
            have HJL : Hid (((FF.map Prod.fst).take j).length ≤ 1024) := by show _ ≤ _; have := HSZ.out; simp; omega
            clear hya hy
            go_wp2_with (at_builtin; refine wpList_append_rows _ rfl (.tmp 101) (.tmp 107) 41 rfl wa.heap.size 9 it _ 1 16 Try.underlying41 hit hzt hst hyt rfl (by omega) cT_one _ _ rfl (HOWN.out.alloc _) _ _ rfl (rows_new _ 1 cT cT_len y.1 9) (by have := HJL.out; simp at this; simp [maxLen]; omega) (by have := HJL.out; simp at this; simp; omega) (HBW.out.alloc HBW.out.size _).size ?_; intro v1 w1 ho1 hg1 hf1; have HO1 := hid ho1; have HB1 := hid ((HBW.out.alloc HBW.out.size _).grown hg1 (HBW.out.alloc HBW.out.size _).size (fun g hg => (HOWN.out.lt g (mem_ownFoot.2 hg)).1)); clear ho1 hg1 hf1)
            go_roundw
            case rel => exact ⟨j + 1, by omega, by omega, by go_num, by rw [HTK.out]; exact HO1.out, HB1.out⟩
            case measure => simp [intOf]; omega
          · have hjmi : ¬ (j : Int) < m := by omega
            have hje : j = m := by omega
            have HJE := hid hje
            clear hje
            go_wp2
            go_ret
            refine ⟨_, rfl, ?_, below_step HJ.out.b HBW.out⟩
            show OwnElems 1 cT 9 wr w.heap.size (.slice Ao no co) (findL c lo hi m l)
            rw [HRES.out, ← HJE.out]
            exact HOWN.out.down_ HJ.out.b.size
        · have hji : ¬ (j : Int) < nf := by omega
          have hje : j = nf := by omega
          have HJE := hid hje
          clear hje
          go_wp2
          go_ret
          refine ⟨_, rfl, ?_, below_step HJ.out.b HBW.out⟩
          show OwnElems 1 cT 9 wr w.heap.size (.slice Ao no co) (findL c lo hi m l)
          rw [HRES.out, List.take_of_length_le (by have := HNF.out; simp; omega)]
          have h2 := HOWN.out
          rw [List.take_of_length_le (by have := HNF.out; have := HJE.out; simp; omega)] at h2
          exact h2.down_ HJ.out.b.size
end Go.Proofs.Ytlnagdodnkhbmaa
