/- BufferApplies. -/
import Derived.Test.YtlnagdodnkhbmaaGreatV20
namespace Go.Proofs.YtlnagdodnkhbmaaGreat
open Go.RowKit Go.Maps Go.WideMaps
set_option maxRecDepth 100000

theorem kput_show {most : Nat} {l : List KR} {ws : List WR} (hl : RowsOk l) (hw : WsOk ws) {k : List Nat} (hb : Byt k) {r : Ro} (hr : r.ok) : kputN most (showW l ws) k r = showW l (if kputE most (showW l ws) k = 0 then insW ws k (some r) else ws) := by
  unfold kputN
  by_cases h : kputE most (showW l ws) k = 0
  · rw [if_pos h, if_pos h, show_put hl hw hb (by
      unfold kputE at h
      by_cases hk : keyB k = true
      · exact hk
      · rw [if_neg hk] at h; cases h) (fun q e => by injection e with e; subst e; exact hr)]
    rfl
  · rw [if_neg h, if_neg h]
theorem kdel_show {l : List KR} {ws : List WR} (hl : RowsOk l) (hw : WsOk ws) {k : List Nat} (hb : Byt k) : kdelN (showW l ws) k = showW l (if kgetE (showW l ws) k = 0 then insW ws k none else ws) := by
  by_cases h : kgetE (showW l ws) k = 0
  · rw [if_pos h, show_put hl hw hb (by
      unfold kgetE at h
      by_cases hk : keyB k = true
      · exact hk
      · rw [if_neg hk] at h; cases h) (fun q e => by cases e)]
    rfl
  · rw [if_neg h]
    unfold kdelN
    rw [if_neg h]
theorem applies_bad (w : World) (n : Int) (v1 v2 : Value) (l1 l2 : List Op7) (h1 : Elems 6 cOp w v1 l1) (h2 : Elems 6 cOp w v2 l2) (h : rightB n = false ∨ (few7 l1 && few7 l2) = false) : Calls Tryz.prog 4 #[.int .i64 n, .agg #[v1, v2]] w (Yes w) := by
  obtain ⟨A1, cp1, rfl⟩ := h1.slice
  obtain ⟨A2, cp2, rfl⟩ := h2.slice
  obtain ⟨n1, HN1⟩ : ∃ n, Hid (n = l1.length) := ⟨_, rfl⟩
  obtain ⟨n2, HN2⟩ : ∃ n, Hid (n = l2.length) := ⟨_, rfl⟩
  rw [← HN1.out] at h1 ⊢
  rw [← HN2.out] at h2 ⊢
  obtain ⟨wa, HWA⟩ : ∃ W, Hid (W = w.alloc (.cells #[.slice A1 n1 cp1, .slice A2 n2 cp2] 24)) := ⟨_, rfl⟩
  have HBA : Hid (Below w.heap.size w wa) := by rw [HWA.out]; exact (Below.refl _ _).alloc (Nat.le_refl _) _
  have HR : Hid (wa.heap[w.heap.size]? = some (.cells #[.slice A1 n1 cp1, .slice A2 n2 cp2] 24 (0, 0))) := by rw [HWA.out]; exact heap_alloc_new w _
  have H1 := hid (h1.below HBA.out)
  have H2 := hid (h2.below HBA.out)
  have q0 : wa.cell? ⟨w.heap.size, 0, none⟩ = some (.slice A1 n1 cp1) := cell_of_row wa w.heap.size 0 _ _ _ HR.out
  have q1 : wa.cell? ⟨w.heap.size, 1, none⟩ = some (.slice A2 n2 cp2) := cell_of_row wa w.heap.size 1 _ _ _ HR.out
  clear h1 h2
  cases hr : rightB n with
  | false =>
    clear h
    go_enter Tryz.func4, Tryz.ntmps4
    go_wp2_with fail
    rw [← HWA.out]
    refine (right_any wa n).mono ?_
    rw [hr]
    intro e w1 hh
    obtain ⟨rfl, hw⟩ := hh
    rw [hw]
    clear hw
    go_wp2_with fail
    refine (awake8_any _).mono ?_
    rintro e w9 ⟨rfl, hb9⟩
    go_wp2
    go_ret
    exact ⟨rfl, below_step HBA.out hb9⟩
  | true =>
    cases hf : (few7 l1 && few7 l2) with
    | false =>
      clear h
      go_enter Tryz.func4, Tryz.ntmps4
      go_wp2_with fail
      rw [← HWA.out]
      refine (right_any wa n).mono ?_
      rw [hr]
      intro e w1 hh
      obtain ⟨rfl, hw⟩ := hh
      rw [hw]
      clear hw
      go_wp2_with fail
      refine (few8_any wa _ _ l1 l2 H1.out H2.out).mono ?_
      rw [hf]
      rintro e w2 ⟨rfl, hb2⟩
      have HB2 := hid (below_step HBA.out hb2)
      clear hb2
      go_wp2_with fail
      refine (awake8_any _).mono ?_
      rintro e w9 ⟨rfl, hb9⟩
      go_wp2
      go_ret
      exact ⟨rfl, below_step HB2.out hb9⟩
    | true => rw [hr, hf] at h; simp at h
/-- A buffer over a table, beside a table that has what the buffer shows; the reference of the first one. -/
structure Beside (W w : World) (T : Nat) (p : Nat → Nat) (Q : Bl) (most : Nat) (l : List KR) (m U : Nat) (p2 : Nat → Nat) (Qu : Bl) (G : List Nat) (rp : Nat) (ws : List WR) : Prop where
  o : Over w T p Q most 2 l (m + 1) m ws
  u : Tab w U p2 Qu most 2 (showW l ws)
  r : RTab w G rp most l
  q : ¬ Qu m
  n : ∀ b, Qu b → U ≤ b
  tU : T < U
  pU : ∀ b ∈ five p, W.heap.size ≤ b ∧ b < U ∧ b ∉ G
  qU : ∀ b, Q b → b < U
  gU : ∀ b ∈ G, b < U
  p2U : ∀ b ∈ five p2, U ≤ b ∧ b < m
  um : U < m
  wU : W.heap.size ≤ U
  below : Below W.heap.size W w
section
variable {W w w' : World} {T : Nat} {p : Nat → Nat} {Q : Bl} {most : Nat} {l : List KR} {m U : Nat} {p2 : Nat → Nat} {Qu : Bl} {G : List Nat} {rp : Nat} {ws us : List WR}
theorem Beside.step (h : Beside W w T p Q most l m U p2 Qu G rp ws) (hb : Below w.heap.size w w') : Beside W w' T p Q most l m U p2 Qu G rp ws :=
  ⟨h.o.below hb, h.u.below hb, h.r.below hb, h.q, h.n, h.tU, h.pU, h.qU, h.gU, h.p2U, h.um, h.wU, below_step h.below hb⟩
/-- Both were called, one behind the other. -/
theorem Beside.both {w1 : World} {l2 : List KR} (h : Beside W w T p Q most l m U p2 Qu G rp ws) (ho : Over w1 T p Q most 2 l (m + 1) m us) (hc : Chg [m] w w1 [m]) (hu : Tab w' U p2 (New Qu w1 w') most 2 l2) (hc2 : Chg (five p2) w1 w' (five p2)) (he : l2 = showW l us) :
    Beside W w' T p Q most l m U p2 (New Qu w1 w') G rp us := by
  have hml : m < w.heap.size := h.o.b.mlt
  have hml1 : m < w1.heap.size := ho.b.mlt
  have hu1 : Tab w1 U p2 Qu most 2 (showW l ws) := h.u.chg hc (by have := h.um; simp; omega) (fun i hi => by have := (h.p2U (p2 i) (mem_five.2 ⟨i, hi, rfl⟩)).2; simp; omega) (fun b hb => by simp at hb; subst hb; exact h.q)
  refine ⟨⟨ho.t.chg hc2 (fun hm => by have := (h.p2U T hm).1; have := h.tU; omega) (fun i hi hm => by have := (h.p2U _ hm).1; have := (h.pU (p i) (mem_five.2 ⟨i, hi, rfl⟩)).2.1; omega) (fun b hb hq => by have := (h.p2U b hb).1; have := h.qU b hq; omega), ho.b.chg hc2 (fun hm => by have := (h.p2U _ hm).2; omega) (fun hm => by have := (h.p2U _ hm).2; omega) (fun g r hl => hu1.not_row hl), h.o.q⟩, he ▸ hu, ?_, ?_, ?_, h.tU, h.pU, h.qU, h.gU, h.p2U, h.um, h.wU, ?_⟩
  · exact (h.r.chg hc (fun b hb hg => by simp at hb; subst hb; have := h.gU _ hg; have := h.um; omega)).chg hc2 (fun b hb hg => by have := (h.p2U b hb).1; have := h.gU b hg; omega)
  · rintro (hq | hq)
    · exact h.q hq
    · omega
  · rintro b (hq | hq)
    · exact h.n b hq
    · have := h.um; omega
  · have h1 := h.below.trans (hc.below (fun b hb => by simp at hb; subst hb; have := h.um; have := h.wU; omega) h.below.size)
    exact h1.trans (hc2.below (fun b hb => by have := (h.p2U b hb).1; have := h.wU; omega) h1.size)
end
set_option maxHeartbeats 8000000 in
theorem applies_ok (w : World) (most : Nat) (hm1 : 1 ≤ most) (hm2 : most ≤ 1024) (v1 v2 : Value) (l1 l2 : List Op7) (h1 : Elems 6 cOp w v1 l1) (h2 : Elems 6 cOp w v2 l2) (ho1 : OpsOk l1) (ho2 : OpsOk l2) (hf1 : few7 l1 = true) (hf2 : few7 l2 = true) : Calls Tryz.prog 4 #[.int .i64 (most : Int), .agg #[v1, v2]] w (Yes w) := by
  obtain ⟨A1, cp1, rfl⟩ := h1.slice
  obtain ⟨A2, cp2, rfl⟩ := h2.slice
  obtain ⟨n1, HN1⟩ : ∃ n, Hid (n = l1.length) := ⟨_, rfl⟩
  obtain ⟨n2, HN2⟩ : ∃ n, Hid (n = l2.length) := ⟨_, rfl⟩
  have hn2 : n2 ≤ 100 := by rw [HN2.out]; exact (few7_yes hf2).2
  have HKL : Hid (∀ o ∈ l2, o.key.length ≤ maxLen) := fun o ho => Nat.le_trans ((few7_yes hf2).1 o ho) (by simp [maxLen])
  have HF : Hid ((few7 l1 && few7 l2) = true) := by show _ = _; rw [hf1, hf2]; rfl
  rw [← HN1.out] at h1 ⊢
  rw [← HN2.out] at h2 ⊢
  obtain ⟨wa, HWA⟩ : ∃ W, Hid (W = w.alloc (.cells #[.slice A1 n1 cp1, .slice A2 n2 cp2] 24)) := ⟨_, rfl⟩
  have HBA : Hid (Below w.heap.size w wa) := by rw [HWA.out]; exact (Below.refl _ _).alloc (Nat.le_refl _) _
  have HR : Hid (wa.heap[w.heap.size]? = some (.cells #[.slice A1 n1 cp1, .slice A2 n2 cp2] 24 (0, 0))) := by rw [HWA.out]; exact heap_alloc_new w _
  have H1 := hid (h1.below HBA.out)
  have H2 := hid (h2.below HBA.out)
  have q0 : wa.cell? ⟨w.heap.size, 0, none⟩ = some (.slice A1 n1 cp1) := cell_of_row wa w.heap.size 0 _ _ _ HR.out
  have Q1 : Hid (wa.cell? ⟨w.heap.size, 1, none⟩ = some (.slice A2 n2 cp2)) := cell_of_row wa w.heap.size 1 _ _ _ HR.out
  have HRT : Hid (rightB (most : Int) = true) := decide_eq_true (by omega)
  clear h1 h2
  go_enter Tryz.func4, Tryz.ntmps4
  go_wp2_with fail
  rw [← HWA.out]
  refine (right_any wa _).mono ?_
  rw [HRT.out]
  intro e w1 hh
  obtain ⟨rfl, hw⟩ := hh
  rw [hw]
  clear hw
  have q1 := Q1.out
  go_wp2_with fail
  refine (few8_any _ _ _ l1 l2 H1.out H2.out).mono ?_
  rw [HF.out]
  rintro e w2 ⟨rfl, hb2⟩
  have HB2 := hid hb2
  have q0' := below_keep hb2 _ _ q0
  clear hb2 q0 q1
  go_wp2_with fail
  refine (made_any w2 most hm1 hm2 _ l1 (H1.out.below HB2.out) ho1).mono ?_
  rintro e w3 ⟨p, Q, G, rp, rfl, hst⟩
  obtain ⟨l, HL⟩ : ∃ l, Hid (l = runK most [] l1) := ⟨_, rfl⟩
  rw [← HL.out] at hst
  have HST := hid hst
  obtain ⟨T, HT⟩ : ∃ T, Hid (T = w2.heap.size) := ⟨_, rfl⟩
  rw [← HT.out] at HST ⊢
  have HB3 := hid (below_step HB2.out HST.out.since)
  have q0 : w3.cell? ⟨w.heap.size, 0, none⟩ = some (.slice A1 n1 cp1) := below_keep HST.out.since _ _ q0'
  clear hst q0'
  go_wp2_with fail
  refine (madeQ_any w3 most hm1 hm2 _ l1 (H1.out.below HB3.out) ho1).mono ?_
  rintro e w4 ⟨p2, Q2, G2, rp2, rfl, hst2, hq2⟩
  rw [← HL.out] at hst2
  have HST2 := hid hst2
  have HQ2 := hid hq2
  have HSTB := hid (HST.out.below_ hst2.since)
  obtain ⟨U, HU⟩ : ∃ T, Hid (T = w3.heap.size) := ⟨_, rfl⟩
  rw [← HU.out] at HST2 HQ2 ⊢
  clear hst2 hq2 q0
  go_wp2_with fail
  refine (Over.new HSTB.out.t).mono ?_
  rintro e w5 ⟨rfl, hb5, hov, hs5⟩
  obtain ⟨m, HM⟩ : ∃ m, Hid (m = w4.heap.size) := ⟨_, rfl⟩
  rw [← HM.out] at hov ⊢
  have HBE : Hid (Beside w w5 T p Q most l m U p2 Q2 G rp []) := by
    have e1 := HM.out
    have e2 := HU.out
    have b1 := HBA.out.size
    have b2 := HB2.out.size
    have b3 := HB3.out.size
    have b4 := HST2.out.since.size
    refine ⟨hov, HST2.out.t.below hb5, HSTB.out.r.below hb5, fun hq => by have := HST2.out.t.under m hq; omega, HQ2.out, by have := HST.out.t.lt; omega, fun b hb => ?_, fun b hq => by have := HST.out.t.under b hq; omega, fun b hb => by have := HST.out.r.lt b hb; omega, fun b hb => ?_, by have := HST2.out.t.lt; omega, by omega, ?_⟩
    · obtain ⟨i, hi, rfl⟩ := mem_five.1 hb
      have h1 := HST.out.c.foot (p i) (List.mem_cons_of_mem _ (mem_five.2 ⟨i, hi, rfl⟩))
      have h2 := HST.out.t.plt hi
      refine ⟨?_, by omega, HST.out.n i hi⟩
      rcases h1 with h1 | h1
      · cases h1
      · omega
    · obtain ⟨i, hi, rfl⟩ := mem_five.1 hb
      have h1 := HST2.out.c.foot (p2 i) (List.mem_cons_of_mem _ (mem_five.2 ⟨i, hi, rfl⟩))
      have h2 := HST2.out.t.plt hi
      refine ⟨?_, by omega⟩
      rcases h1 with h1 | h1
      · cases h1
      · omega
    · exact below_step (below_step (below_step HBA.out HB3.out) HST2.out.since) hb5
  have HWA5 : Hid (Below wa.heap.size wa w5 ∧ wa.heap.size ≤ U) := ⟨below_step (below_step HB3.out HST2.out.since) hb5, by have := HB3.out.size; have := HU.out; omega⟩
  have HLM : Hid (∀ i, i < 5 → wa.heap.size ≤ p2 i) := fun i hi => by have := (HBE.out.p2U (p2 i) (mem_five.2 ⟨i, hi, rfl⟩)).1; have := HWA5.out.2; omega
  clear hb5 hov hs5
  go_wp2
  go_loopw [11] (fun i wr => ∃ j : Nat, j ≤ n2 ∧ i = .int .i64 j ∧ ∃ (ws : List WR) (Qu : Bl), ws.length ≤ j ∧ Beside w wr T p Q most l m U p2 Qu G rp ws ∧ Below wa.heap.size wa wr) (fun i _ => n2 - (intOf i).toNat)
  case atStart => exact ⟨0, by omega, rfl, [], Q2, by simp, HBE.out, HWA5.out.1⟩
  case round =>
    obtain ⟨j, hj, rfl, ws, Qu, hwl, hbe, hbw⟩ := hrel
    have q1 := below_keep hbw _ _ Q1.out
    by_cases hlt : j < n2
    · have hlti : (j : Int) < n2 := by omega
      have hj0 : (0 : Int) ≤ (j : Int) := by omega
      obtain ⟨op, hop⟩ : ∃ op, l2[j]? = some op := ⟨l2[j]'(by have := HN2.out; omega), List.getElem?_eq_getElem _⟩
      obtain ⟨ad, rfl, hat⟩ := (H2.out.below hbw).opAt hop
      obtain ⟨hc0, hc1, hc2, hc3, hc4, hc5⟩ := hat
      have HOK := hid (ho2.ok op (List.mem_of_getElem? hop))
      have HOL := hid (HKL.out op (List.mem_of_getElem? hop))
      obtain ⟨kk, kx, r⟩ := op
      dsimp only at hc0 hc1 hc2 hc3 hc4 hc5 HOL
      have HWL := hid hwl
      have hba : Below wr.heap.size wr (wr.alloc (.cells #[.int .i64 kk, .string (str kx), .int .i64 r.a, .int .i64 r.b, .int .i64 r.c, .int .i64 r.d] 43)) := (Below.refl _ _).alloc (Nat.le_refl _) _
      have HO1 := hid (hbe.step hba)
      have HB1 := hid (below_step hbw hba)
      have HNA := hid (opAt_new wr ⟨kk, kx, r⟩)
      have HMR : Hid (m < wr.heap.size) := hbe.o.b.mlt
      clear hop hwl hbe hbw hba
      by_cases h0 : kk = 0
      · subst h0
        obtain ⟨c, HC⟩ : ∃ c, Hid (c = kputE most (showW l ws) kx) := ⟨_, rfl⟩
        go_wp2_with fail
        refine (HO1.out.o.put (by have := HWL.out; omega) kx HOK.out.key HOL.out r HOK.out.row).mono ?_
        rw [← HC.out]
        rintro e w6 ⟨rfl, ho6, hc6⟩
        have HO6 := hid ho6
        have HC6 := hid hc6
        clear hc0 hc1 hc2 hc3 hc4 hc5
        obtain ⟨hc0, hc1, hc2, hc3, hc4, hc5⟩ := HNA.out.chg hc6 (by have := HMR.out; simp; omega)
        dsimp only at hc0 hc1 hc2 hc3 hc4 hc5
        have HU6 : Hid (Tab w6 U p2 Qu most 2 (showW l ws)) := HO1.out.u.chg hc6 (by have := HO1.out.um; simp; omega) (fun i hi => by have := (HO1.out.p2U (p2 i) (mem_five.2 ⟨i, hi, rfl⟩)).2; simp; omega) (fun b hb => by simp at hb; subst hb; exact HO1.out.q)
        have HPUT : Hid (Calls Tryz.prog 23 #[.pointer (some ⟨U, 0, none⟩), .string (str kx), .agg #[.int .i64 r.a, .int .i64 r.b, .int .i64 r.c, .int .i64 r.d]] w6 (PutEnd w6 U p2 Qu most 2 (kputN most (showW l ws) kx r) (kgetR (showW l ws) kx) (kputW (showW l ws) kx) (kputE most (showW l ws) kx))) := tput HU6.out kx HOK.out.key r HOK.out.row
        clear ho6 hc6
        go_wp2_with fail
        refine HPUT.out.mono ?_
        rw [← HC.out]
        rintro e w7 ⟨rfl, ht7, hc7⟩
        have HF := hid (HO1.out.both HO6.out HC6.out ht7 hc7 (by rw [HC.out]; exact kput_show HO1.out.o.t.rows HO1.out.o.b.ok HOK.out.key HOK.out.row))
        have HB7 := hid ((HB1.out.trans (HC6.out.below (fun b hb => by simp at hb; subst hb; have := HO1.out.um; have := HWA5.out.2; omega) HB1.out.size)).trans (hc7.below (fun b hb => by obtain ⟨i, hi, rfl⟩ := mem_five.1 hb; exact HLM.out i hi) (Nat.le_trans HB1.out.size HC6.out.size)))
        have HLE : Hid ((if c = 0 then insW ws kx (some r) else ws).length ≤ j + 1) := by
          show _ ≤ _
          split
          · exact Nat.le_trans (insW_len _ _ _) (Nat.succ_le_succ HWL.out)
          · exact Nat.le_succ_of_le HWL.out
        clear ht7 hc7 hc0 hc1 hc2 hc3 hc4 hc5
        go_wp2
        go_roundw
        case rel => exact ⟨j + 1, by omega, by go_num, _, _, HLE.out, HF.out, HB7.out⟩
        case measure => simp [intOf]; omega
      · by_cases h1 : kk = 1
        · subst h1
          obtain ⟨c, HC⟩ : ∃ c, Hid (c = kgetE (showW l ws) kx) := ⟨_, rfl⟩
          go_wp2_with fail
          refine (HO1.out.o.del (by have := HWL.out; omega) kx HOK.out.key HOL.out).mono ?_
          rw [← HC.out]
          rintro e w6 ⟨rfl, ho6, hc6⟩
          have HO6 := hid ho6
          have HC6 := hid hc6
          clear hc0 hc1 hc2 hc3 hc4 hc5
          obtain ⟨hc0, hc1, hc2, hc3, hc4, hc5⟩ := HNA.out.chg hc6 (by have := HMR.out; simp; omega)
          dsimp only at hc0 hc1 hc2 hc3 hc4 hc5
          have HU6 : Hid (Tab w6 U p2 Qu most 2 (showW l ws)) := HO1.out.u.chg hc6 (by have := HO1.out.um; simp; omega) (fun i hi => by have := (HO1.out.p2U (p2 i) (mem_five.2 ⟨i, hi, rfl⟩)).2; simp; omega) (fun b hb => by simp at hb; subst hb; exact HO1.out.q)
          clear ho6 hc6
          go_wp2_with fail
          refine (tdel HU6.out kx HOK.out.key).mono ?_
          rw [← HC.out]
          rintro e w7 ⟨rfl, ht7, hc7⟩
          have HF := hid (HO1.out.both HO6.out HC6.out ht7 hc7 (by rw [HC.out]; exact kdel_show HO1.out.o.t.rows HO1.out.o.b.ok HOK.out.key))
          have HB7 := hid ((HB1.out.trans (HC6.out.below (fun b hb => by simp at hb; subst hb; have := HO1.out.um; have := HWA5.out.2; omega) HB1.out.size)).trans (hc7.below (fun b hb => by obtain ⟨i, hi, rfl⟩ := mem_five.1 hb; exact HLM.out i hi) (Nat.le_trans HB1.out.size HC6.out.size)))
          have HLE : Hid ((if c = 0 then insW ws kx none else ws).length ≤ j + 1) := by
            show _ ≤ _
            split
            · exact Nat.le_trans (insW_len _ _ _) (Nat.succ_le_succ HWL.out)
            · exact Nat.le_succ_of_le HWL.out
          clear ht7 hc7 hc0 hc1 hc2 hc3 hc4 hc5
          go_wp2
          go_roundw
          case rel => exact ⟨j + 1, by omega, by go_num, _, _, HLE.out, HF.out, HB7.out⟩
          case measure => simp [intOf]; omega
        · go_wp2
          go_roundw
          case rel => exact ⟨j + 1, by omega, by go_num, ws, Qu, Nat.le_succ_of_le HWL.out, HO1.out, HB1.out⟩
          case measure => simp [intOf]; omega
    · obtain rfl : j = n2 := by omega
      have HF := hid hbe
      have HWS : Hid (ws.length ≤ 1000000) := by show _ ≤ _; omega
      clear hbe hbw hwl
      go_wp2_with fail
      refine (same7_yes _ T p Q most 2 l G rp HF.out.o.t HF.out.r HF.out.o.t.rows.byt).mono ?_
      rintro e w9 ⟨rfl, hb9⟩
      have HF9 := hid (HF.out.step hb9)
      clear hb9 q1
      obtain ⟨shw, HSHW⟩ : ∃ s, Hid (s = showW l ws) := ⟨_, rfl⟩
      go_wp2_with fail
      refine (bapply_ok HF9.out.o.b HF9.out.o.t HWS.out HF9.out.u.full HF9.out.o.q).mono ?_
      rw [← HSHW.out]
      rintro e w13 ⟨rfl, Q13, ht13, hb13, hc13, _⟩
      have HT13 := hid ht13
      have HBU13 := hid hb13
      have HU13 : Hid (Tab w13 U p2 Qu most 2 shw) := by
        rw [HSHW.out]
        refine HF9.out.u.chg hc13 (fun hm => ?_) (fun i hi hm => ?_) (fun b hb hq => ?_)
        · rcases List.mem_cons.1 hm with e | hm
          · have := HF9.out.um; omega
          · have := (HF9.out.pU _ hm).2.1; omega
        · have h2 := HF9.out.p2U (p2 i) (mem_five.2 ⟨i, hi, rfl⟩)
          rcases List.mem_cons.1 hm with e | hm
          · omega
          · have := (HF9.out.pU _ hm).2.1; omega
        · rcases List.mem_cons.1 hb with rfl | hb
          · exact HF9.out.q hq
          · have := (HF9.out.pU _ hb).2.1; have := HF9.out.n b hq; omega
      have HB13 : Hid (Below w.heap.size w w13) := HF9.out.below.trans (hc13.below (fun b hb => by
        rcases List.mem_cons.1 hb with rfl | hb
        · have := HF9.out.um; have := HF9.out.wU; omega
        · exact (HF9.out.pU _ hb).1) HF9.out.below.size)
      clear ht13 hb13 hc13
      go_wp2_with fail
      refine (tsame_any HT13.out HU13.out).mono ?_
      rw [sameL_refl]
      rintro e w14 ⟨rfl, hb14⟩
      have HX14 := hid hb14
      clear hb14
      go_wp2_with fail
      refine (check_yes (HT13.out.below HX14.out)).mono ?_
      rintro e w15 ⟨rfl, hb15⟩
      have HX15 := hid (below_step HX14.out hb15)
      clear hb15
      go_wp2_with fail
      refine (written_none (HBU13.out.below HX15.out)).mono ?_
      rintro e w16 ⟨rfl, hb16⟩
      have HX16 := hid (below_step HX15.out hb16)
      clear hb16
      go_wp2_with fail
      refine (blen (HBU13.out.below HX16.out) (HT13.out.below HX16.out) (by simp)).mono ?_
      rintro e w17 ⟨rfl, hb17⟩
      have HX17 := hid (below_step HX16.out hb17)
      clear hb17
      rw [show ((showW shw []).length : Int) = (shw.length : Int) from rfl]
      go_wp2_with fail
      refine (tlen (HT13.out.below HX17.out)).mono ?_
      rintro e w18 ⟨rfl, hw⟩
      rw [hw]
      clear hw
      go_wp2_with fail
      refine (awake8_any w17).mono ?_
      rintro e w19 ⟨rfl, hb19⟩
      have HB19 := hid (below_step (below_step HB13.out HX17.out) hb19)
      clear hb19
      go_wp2
      go_ret
      exact ⟨rfl, HB19.out⟩
theorem bufferapplies_any (w : World) (n : Int) (v1 v2 : Value) (l1 l2 : List Op7) (h1 : Elems 6 cOp w v1 l1) (h2 : Elems 6 cOp w v2 l2) (ho1 : OpsOk l1) (ho2 : OpsOk l2) : Calls Tryz.prog 4 #[.int .i64 n, .agg #[v1, v2]] w (Yes w) := by
  by_cases h : rightB n = false ∨ (few7 l1 && few7 l2) = false
  · exact applies_bad w n v1 v2 l1 l2 h1 h2 h
  · have hr : rightB n = true := by
      cases hr : rightB n with
      | true => rfl
      | false => exact absurd (.inl hr) h
    have hf : (few7 l1 && few7 l2) = true := by
      cases hf : (few7 l1 && few7 l2) with
      | true => rfl
      | false => exact absurd (.inr hf) h
    rw [Bool.and_eq_true] at hf
    have hn : 1 ≤ n ∧ n ≤ 1024 := by unfold rightB at hr; simpa using hr
    have := applies_ok w n.toNat (by omega) (by omega) v1 v2 l1 l2 h1 h2 ho1 ho2 hf.1 hf.2
    rwa [show ((n.toNat : Nat) : Int) = n by omega] at this
end Go.Proofs.YtlnagdodnkhbmaaGreat
