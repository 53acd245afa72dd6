/- BufferDrops. -/
import Derived.Test.YtlnagdodnkhbmaaGreatV19
namespace Go.Proofs.YtlnagdodnkhbmaaGreat
open Go.RowKit Go.Maps Go.WideMaps
set_option maxRecDepth 100000

theorem drops_bad (w : World) (n : Int) (v1 v2 : Value) (l1 l2 : List Op7) (h1 : Elems 6 cOp w v1 l1) (h2 : Elems 6 cOp w v2 l2) (k : List Nat) (h : rightB n = false ∨ (few7 l1 && few7 l2) = false ∨ 100 < k.length) : Calls Tryz.prog 5 #[.int .i64 n, .agg #[v1, v2], .string (str k)] w (Yes w) := by
  obtain ⟨A1, cp1, rfl⟩ := h1.slice
  obtain ⟨A2, cp2, rfl⟩ := h2.slice
  obtain ⟨n1, HN1⟩ : ∃ n, Hid (n = l1.length) := ⟨_, rfl⟩
  obtain ⟨n2, HN2⟩ : ∃ n, Hid (n = l2.length) := ⟨_, rfl⟩
  rw [← HN1.out] at h1 ⊢
  rw [← HN2.out] at h2 ⊢
  obtain ⟨wa, HWA⟩ : ∃ W, Hid (W = w.alloc (.cells #[.slice A1 n1 cp1, .slice A2 n2 cp2] 24)) := ⟨_, rfl⟩
  have HBA : Hid (Below w.heap.size w wa) := by rw [HWA.out]; exact (Below.refl _ _).alloc (Nat.le_refl _) _
  have HR : Hid (wa.heap[w.heap.size]? = some (.cells #[.slice A1 n1 cp1, .slice A2 n2 cp2] 24 (0, 0))) := by rw [HWA.out]; exact heap_alloc_new w _
  have H1 := hid (h1.below HBA.out)
  have H2 := hid (h2.below HBA.out)
  have q0 : wa.cell? ⟨w.heap.size, 0, none⟩ = some (.slice A1 n1 cp1) := cell_of_row wa w.heap.size 0 _ _ _ HR.out
  have q1 : wa.cell? ⟨w.heap.size, 1, none⟩ = some (.slice A2 n2 cp2) := cell_of_row wa w.heap.size 1 _ _ _ HR.out
  have hsz : (str k).size = k.length := str_size k
  clear h1 h2
  cases hr : rightB n with
  | false =>
    clear h
    go_enter Tryz.func5, Tryz.ntmps5
    go_wp2_with fail
    rw [← HWA.out]
    refine (right_any wa n).mono ?_
    rw [hr]
    intro e w1 hh
    obtain ⟨rfl, hw⟩ := hh
    rw [hw]
    clear hw
    go_wp2_with fail
    refine (awake8_any _).mono ?_
    rintro e w9 ⟨rfl, hb9⟩
    go_wp2
    go_ret
    exact ⟨rfl, below_step HBA.out hb9⟩
  | true =>
    cases hf : (few7 l1 && few7 l2) with
    | false =>
      clear h
      go_enter Tryz.func5, Tryz.ntmps5
      go_wp2_with fail
      rw [← HWA.out]
      refine (right_any wa n).mono ?_
      rw [hr]
      intro e w1 hh
      obtain ⟨rfl, hw⟩ := hh
      rw [hw]
      clear hw
      go_wp2_with fail
      refine (few8_any wa _ _ l1 l2 H1.out H2.out).mono ?_
      rw [hf]
      rintro e w2 ⟨rfl, hb2⟩
      have HB2 := hid (below_step HBA.out hb2)
      clear hb2
      go_wp2_with fail
      refine (awake8_any _).mono ?_
      rintro e w9 ⟨rfl, hb9⟩
      go_wp2
      go_ret
      exact ⟨rfl, below_step HB2.out hb9⟩
    | true =>
      rw [hr, hf] at h
      have hk : 100 < k.length := by simpa using h
      have hki : (100 : Int) < (k.length : Int) := by omega
      clear h hk
      go_enter Tryz.func5, Tryz.ntmps5
      go_wp2_with fail
      rw [← HWA.out]
      refine (right_any wa n).mono ?_
      rw [hr]
      intro e w1 hh
      obtain ⟨rfl, hw⟩ := hh
      rw [hw]
      clear hw
      go_wp2_with fail
      refine (few8_any wa _ _ l1 l2 H1.out H2.out).mono ?_
      rw [hf]
      rintro e w2 ⟨rfl, hb2⟩
      have HB2 := hid (below_step HBA.out hb2)
      clear hb2
      go_wp2_with fail
      refine (awake8_any _).mono ?_
      rintro e w9 ⟨rfl, hb9⟩
      go_wp2
      go_ret
      exact ⟨rfl, below_step HB2.out hb9⟩
set_option maxHeartbeats 8000000 in
theorem drops_ok (w : World) (most : Nat) (hm1 : 1 ≤ most) (hm2 : most ≤ 1024) (v1 v2 : Value) (l1 l2 : List Op7) (h1 : Elems 6 cOp w v1 l1) (h2 : Elems 6 cOp w v2 l2) (ho1 : OpsOk l1) (ho2 : OpsOk l2) (k : List Nat) (hkb : Byt k) (hf1 : few7 l1 = true) (hf2 : few7 l2 = true) (hkl : k.length ≤ 100) : Calls Tryz.prog 5 #[.int .i64 (most : Int), .agg #[v1, v2], .string (str k)] w (Yes w) := by
  obtain ⟨A1, cp1, rfl⟩ := h1.slice
  obtain ⟨A2, cp2, rfl⟩ := h2.slice
  obtain ⟨n1, HN1⟩ : ∃ n, Hid (n = l1.length) := ⟨_, rfl⟩
  obtain ⟨n2, HN2⟩ : ∃ n, Hid (n = l2.length) := ⟨_, rfl⟩
  have hn2 : n2 ≤ 100 := by rw [HN2.out]; exact (few7_yes hf2).2
  have HKL : Hid (∀ o ∈ l2, o.key.length ≤ maxLen) := fun o ho => Nat.le_trans ((few7_yes hf2).1 o ho) (by simp [maxLen])
  have HF : Hid ((few7 l1 && few7 l2) = true) := by show _ = _; rw [hf1, hf2]; rfl
  rw [← HN1.out] at h1 ⊢
  rw [← HN2.out] at h2 ⊢
  obtain ⟨wa, HWA⟩ : ∃ W, Hid (W = w.alloc (.cells #[.slice A1 n1 cp1, .slice A2 n2 cp2] 24)) := ⟨_, rfl⟩
  have HBA : Hid (Below w.heap.size w wa) := by rw [HWA.out]; exact (Below.refl _ _).alloc (Nat.le_refl _) _
  have HR : Hid (wa.heap[w.heap.size]? = some (.cells #[.slice A1 n1 cp1, .slice A2 n2 cp2] 24 (0, 0))) := by rw [HWA.out]; exact heap_alloc_new w _
  have H1 := hid (h1.below HBA.out)
  have H2 := hid (h2.below HBA.out)
  have q0 : wa.cell? ⟨w.heap.size, 0, none⟩ = some (.slice A1 n1 cp1) := cell_of_row wa w.heap.size 0 _ _ _ HR.out
  have Q1 : Hid (wa.cell? ⟨w.heap.size, 1, none⟩ = some (.slice A2 n2 cp2)) := cell_of_row wa w.heap.size 1 _ _ _ HR.out
  have hsz : (str k).size = k.length := str_size k
  have hki : ¬ (100 : Int) < (k.length : Int) := by omega
  have HRT : Hid (rightB (most : Int) = true) := decide_eq_true (by omega)
  have HKB := hid hkb
  have HKM : Hid (k.length ≤ maxLen) := by show _ ≤ _; simp [maxLen]; omega
  clear h1 h2
  go_enter Tryz.func5, Tryz.ntmps5
  go_wp2_with fail
  rw [← HWA.out]
  refine (right_any wa _).mono ?_
  rw [HRT.out]
  intro e w1 hh
  obtain ⟨rfl, hw⟩ := hh
  rw [hw]
  clear hw
  have q1 := Q1.out
  go_wp2_with fail
  refine (few8_any _ _ _ l1 l2 H1.out H2.out).mono ?_
  rw [HF.out]
  rintro e w2 ⟨rfl, hb2⟩
  have HB2 := hid hb2
  have q0' := below_keep hb2 _ _ q0
  clear hb2 q0 q1 hki
  go_wp2_with fail
  refine (made_any w2 most hm1 hm2 _ l1 (H1.out.below HB2.out) ho1).mono ?_
  rintro e w3 ⟨p, Q, G, rp, rfl, hst⟩
  obtain ⟨l, HL⟩ : ∃ l, Hid (l = runK most [] l1) := ⟨_, rfl⟩
  rw [← HL.out] at hst
  have HST := hid hst
  obtain ⟨T, HT⟩ : ∃ T, Hid (T = w2.heap.size) := ⟨_, rfl⟩
  rw [← HT.out] at HST ⊢
  clear hst q0'
  go_wp2_with fail
  refine (Over.new HST.out.t).mono ?_
  rintro e w4 ⟨rfl, hb4, hov, hs4⟩
  obtain ⟨m, HM⟩ : ∃ m, Hid (m = w3.heap.size) := ⟨_, rfl⟩
  rw [← HM.out] at hov ⊢
  have HB3 := hid (below_step HB2.out HST.out.since)
  have HB4 := hid (below_step HB3.out hb4)
  have HRT4 := hid (HST.out.r.below hb4)
  have HMG : Hid (m ∉ G ∧ wa.heap.size ≤ m) := ⟨fun h => by have := HST.out.r.lt m h; have := HM.out; omega, by have := HB3.out.size; have := HM.out; omega⟩
  have HBW : Hid (∀ W', Chg [m] w4 W' [m] → Below wa.heap.size wa W') := fun W' hc => HB4.out.trans (hc.below (fun b hb => by simp at hb; subst hb; exact HMG.out.2) HB4.out.size)
  have HPF : Hid (∀ b ∈ five p, wa.heap.size ≤ b ∧ b ∉ G) := fun b hb => by
    obtain ⟨i, hi, rfl⟩ := mem_five.1 hb
    refine ⟨?_, HST.out.n i hi⟩
    have h1 := HST.out.c.foot (p i) (List.mem_cons_of_mem _ (mem_five.2 ⟨i, hi, rfl⟩))
    have h2 := HB2.out.size
    rcases h1 with h1 | h1
    · cases h1
    · omega
  have HOV := hid hov
  clear hb4 hov hs4
  go_wp2
  go_loopw [11] (fun i wr => ∃ j : Nat, j ≤ n2 ∧ i = .int .i64 j ∧ ∃ ws : List WR, ws.length ≤ j ∧ Over wr T p Q most 2 l (m + 1) m ws ∧ Chg [m] w4 wr [m]) (fun i _ => n2 - (intOf i).toNat)
  case atStart => exact ⟨0, by omega, rfl, [], by simp, HOV.out, Chg.refl _ _⟩
  case round =>
    obtain ⟨j, hj, rfl, ws, hwl, hov, hch⟩ := hrel
    have q1 := below_keep (HBW.out wr hch) _ _ Q1.out
    by_cases hlt : j < n2
    · have hlti : (j : Int) < n2 := by omega
      have hj0 : (0 : Int) ≤ (j : Int) := by omega
      obtain ⟨op, hop⟩ : ∃ op, l2[j]? = some op := ⟨l2[j]'(by have := HN2.out; omega), List.getElem?_eq_getElem _⟩
      obtain ⟨ad, rfl, hat⟩ := (H2.out.below (HBW.out wr hch)).opAt hop
      obtain ⟨hc0, hc1, hc2, hc3, hc4, hc5⟩ := hat
      have HOK := hid (ho2.ok op (List.mem_of_getElem? hop))
      have HOL := hid (HKL.out op (List.mem_of_getElem? hop))
      obtain ⟨kk, kx, r⟩ := op
      dsimp only at hc0 hc1 hc2 hc3 hc4 hc5 HOL
      have HWL := hid hwl
      have hba : Below wr.heap.size wr (wr.alloc (.cells #[.int .i64 kk, .string (str kx), .int .i64 r.a, .int .i64 r.b, .int .i64 r.c, .int .i64 r.d] 43)) := (Below.refl _ _).alloc (Nat.le_refl _) _
      have HO1 := hid (hov.below hba)
      have HC1 := hid (hch.step_below hba)
      clear hop hwl hov hch hba
      by_cases h0 : kk = 0
      · subst h0
        go_wp2_with fail
        refine (HO1.out.put (by have := HWL.out; omega) kx HOK.out.key HOL.out r HOK.out.row).mono ?_
        rintro e w6 ⟨rfl, ho6, hc6⟩
        have HO6 := hid ho6
        have HC6 := hid (HC1.out.trans hc6)
        clear ho6 hc6 hc0 hc1 hc2 hc3 hc4 hc5
        go_wp2
        go_roundw
        case rel => exact ⟨j + 1, by omega, by go_num, _, (by split; exact Nat.le_trans (insW_len _ _ _) (Nat.succ_le_succ HWL.out); exact Nat.le_succ_of_le HWL.out), HO6.out, HC6.out⟩
        case measure => simp [intOf]; omega
      · by_cases h1 : kk = 1
        · subst h1
          go_wp2_with fail
          refine (HO1.out.del (by have := HWL.out; omega) kx HOK.out.key HOL.out).mono ?_
          rintro e w6 ⟨rfl, ho6, hc6⟩
          have HO6 := hid ho6
          have HC6 := hid (HC1.out.trans hc6)
          clear ho6 hc6 hc0 hc1 hc2 hc3 hc4 hc5
          go_wp2
          go_roundw
          case rel => exact ⟨j + 1, by omega, by go_num, _, (by split; exact Nat.le_trans (insW_len _ _ _) (Nat.succ_le_succ HWL.out); exact Nat.le_succ_of_le HWL.out), HO6.out, HC6.out⟩
          case measure => simp [intOf]; omega
        · go_wp2
          go_roundw
          case rel => exact ⟨j + 1, by omega, by go_num, ws, Nat.le_succ_of_le HWL.out, HO1.out, HC1.out⟩
          case measure => simp [intOf]; omega
    · obtain rfl : j = n2 := by omega
      have HOVR := hid hov
      have HCHR := hid hch
      clear hov hch hwl
      go_wp2_with fail
      refine (bdrop HOVR.out.b).mono ?_
      rintro e w6 ⟨⟨u, rfl⟩, hb6, hc6⟩
      have HO6 := hid (HOVR.out.wrote hb6 hc6)
      have HC6 := hid (HCHR.out.trans hc6)
      have HR6 := hid (HRT4.out.chg HC6.out (fun b hb => by simp at hb; subst hb; exact HMG.out.1))
      have HB6 := hid (below_step HBA.out (HBW.out w6 HC6.out))
      clear hb6 hc6 q1
      obtain ⟨gr, HGR⟩ : ∃ x, Hid (x = kgetR l k) := ⟨_, rfl⟩
      obtain ⟨ge, HGE⟩ : ∃ x, Hid (x = kgetE l k) := ⟨_, rfl⟩
      have hG6 : Calls Tryz.prog 31 #[.pointer (some ⟨m + 1, 0, none⟩), .string (str k)] w6 (RowEnd w6 gr ge) := by
        rw [HGR.out, HGE.out]
        exact bget HO6.out.b HO6.out.t k HKB.out HKM.out
      go_wp2_with fail
      refine hG6.mono ?_
      rintro e w7 ⟨rfl, hb7⟩
      dsimp only [rowv, rowc]
      have hba7 : Below w7.heap.size w7 (w7.alloc (.cells #[.int .i64 gr.a, .int .i64 gr.b, .int .i64 gr.c, .int .i64 gr.d] 41)) := (Below.refl _ _).alloc (Nat.le_refl _) _
      have HB7 := hid (below_step hb7 hba7)
      have HL7 : Hid (Lies (w7.alloc (.cells #[.int .i64 gr.a, .int .i64 gr.b, .int .i64 gr.c, .int .i64 gr.d] 41)) w7.heap.size gr) := Lies.new w7 gr
      obtain ⟨w7a, HW7⟩ : ∃ W, Hid (W = w7.alloc (.cells #[.int .i64 gr.a, .int .i64 gr.b, .int .i64 gr.c, .int .i64 gr.d] 41)) := ⟨_, rfl⟩
      rw [← HW7.out] at HB7 HL7
      clear hb7 hba7 hG6
      have hG7 : Calls Tryz.prog 32 #[.pointer (some ⟨T, 0, none⟩), .string (str k)] w7a (RowEnd w7a gr ge) := by
        rw [HGR.out, HGE.out]
        exact tget (HO6.out.t.below HB7.out) k HKB.out
      go_wp2_with fail
      rw [← HW7.out]
      refine hG7.mono ?_
      rintro e w8 ⟨rfl, hb8⟩
      dsimp only [rowv, rowc]
      have hba8 : Below w8.heap.size w8 (w8.alloc (.cells #[.int .i64 gr.a, .int .i64 gr.b, .int .i64 gr.c, .int .i64 gr.d] 41)) := (Below.refl _ _).alloc (Nat.le_refl _) _
      have HB8 := hid (below_step HB7.out (below_step hb8 hba8))
      have HL8 : Hid (Lies (w8.alloc (.cells #[.int .i64 gr.a, .int .i64 gr.b, .int .i64 gr.c, .int .i64 gr.d] 41)) w8.heap.size gr) := Lies.new w8 gr
      have HL7' := hid (HL7.out.below (below_step hb8 hba8))
      obtain ⟨w8a, HW8⟩ : ∃ W, Hid (W = w8.alloc (.cells #[.int .i64 gr.a, .int .i64 gr.b, .int .i64 gr.c, .int .i64 gr.d] 41)) := ⟨_, rfl⟩
      rw [← HW8.out] at HB8 HL8 HL7'
      clear hb8 hba8 hG7
      go_wp2_with fail
      rw [← HW8.out]
      refine (same7_yes w8a T p Q most 2 l G rp (HO6.out.t.below HB8.out) (HR6.out.below HB8.out) HO6.out.t.rows.byt).mono ?_
      rintro e w9 ⟨rfl, hb9⟩
      have HB9 := hid (below_step HB8.out hb9)
      have HX9 := hid hb9
      clear hb9
      go_wp2_with fail
      refine (written_none (HO6.out.b.below HB9.out)).mono ?_
      rintro e w10 ⟨rfl, hb10⟩
      have HB10 := hid (below_step HB9.out hb10)
      have HX10 := hid (below_step HX9.out hb10)
      clear hb10
      go_wp2_with fail
      refine (blen (HO6.out.b.below HB10.out) (HO6.out.t.below HB10.out) (by simp)).mono ?_
      rintro e w11 ⟨rfl, hb11⟩
      have HB11 := hid (below_step HB10.out hb11)
      have HX11 := hid (below_step HX10.out hb11)
      clear hb11
      rw [show ((showW l []).length : Int) = (l.length : Int) from rfl]
      obtain ⟨x0, x1, x2, x3⟩ := (HL7'.out.below HX11.out).four
      obtain ⟨y0, y1, y2, y3⟩ := (HL8.out.below HX11.out).four
      have heq := eq_rows gr gr
      rw [decide_eq_true rfl] at heq
      go_wp2_with fail
      refine (tlen (HO6.out.t.below HB11.out)).mono ?_
      rintro e w12 ⟨rfl, hw⟩
      rw [hw]
      clear hw
      go_wp2_with fail
      refine (bapply_ok (HO6.out.b.below HB11.out) (HO6.out.t.below HB11.out) (by simp) HO6.out.t.full HO6.out.q).mono ?_
      rintro e w13 ⟨rfl, Q13, ht13, hb13, hc13, _⟩
      have HT13 : Hid (Tab w13 T p Q13 most 2 l) := ht13
      have HR13 := hid ((HR6.out.below HB11.out).chg hc13 (fun b hb => by
        rcases List.mem_cons.1 hb with rfl | hb
        · exact HMG.out.1
        · exact (HPF.out b hb).2))
      have HB13 : Hid (Below w.heap.size w w13) := (below_step HB6.out HB11.out).trans (hc13.below (fun b hb => by
        have h1 := HBA.out.size
        rcases List.mem_cons.1 hb with rfl | hb
        · have := HMG.out.2; omega
        · have := (HPF.out b hb).1; omega) (below_step HB6.out HB11.out).size)
      clear ht13 hb13 hc13 x0 x1 x2 x3 y0 y1 y2 y3 heq
      go_wp2_with fail
      refine (same7_yes w13 T p Q13 most 2 l G rp HT13.out HR13.out HT13.out.rows.byt).mono ?_
      rintro e w14 ⟨rfl, hb14⟩
      have HB14 := hid (below_step HB13.out hb14)
      clear hb14
      go_wp2_with fail
      refine (awake8_any w14).mono ?_
      rintro e w15 ⟨rfl, hb15⟩
      have HB15 := hid (below_step HB14.out hb15)
      clear hb15
      go_wp2
      go_ret
      exact ⟨rfl, HB15.out⟩
theorem bufferdrops_any (w : World) (n : Int) (v1 v2 : Value) (l1 l2 : List Op7) (h1 : Elems 6 cOp w v1 l1) (h2 : Elems 6 cOp w v2 l2) (ho1 : OpsOk l1) (ho2 : OpsOk l2) (k : List Nat) (hkb : Byt k) : Calls Tryz.prog 5 #[.int .i64 n, .agg #[v1, v2], .string (str k)] w (Yes w) := by
  by_cases h : rightB n = false ∨ (few7 l1 && few7 l2) = false ∨ 100 < k.length
  · exact drops_bad w n v1 v2 l1 l2 h1 h2 k h
  · have hr : rightB n = true := by
      cases hr : rightB n with
      | true => rfl
      | false => exact absurd (.inl hr) h
    have hf : (few7 l1 && few7 l2) = true := by
      cases hf : (few7 l1 && few7 l2) with
      | true => rfl
      | false => exact absurd (.inr (.inl hf)) h
    rw [Bool.and_eq_true] at hf
    have hk : k.length ≤ 100 := by
      rcases Nat.lt_or_ge 100 k.length with hk | hk
      · exact absurd (.inr (.inr hk)) h
      · exact hk
    have hn : 1 ≤ n ∧ n ≤ 1024 := by unfold rightB at hr; simpa using hr
    have := drops_ok w n.toNat (by omega) (by omega) v1 v2 l1 l2 h1 h2 ho1 ho2 k hkb hf.1 hf.2 hk
    rwa [show ((n.toNat : Nat) : Int) = n by omega] at this
end Go.Proofs.YtlnagdodnkhbmaaGreat
