/- Find: which keys it tells. -/
import Derived.Test.YtlnagdodnkhbmaaT16
namespace Go.Proofs.Ytlnagdodnkhbmaa
open Go.RowKit Go.Shelf
set_option maxRecDepth 100000
attribute [local go_sem] Oper.semAt_some

def FindEnd (w : World) (L : List (List Nat)) (e : Ending) (w' : World) : Prop :=
  ∃ v, e = .returned (.tuple #[v, .int .i64 0]) ∧ OwnElems 1 cT 9 w' w.heap.size v L ∧ Below w.heap.size w w'
theorem Idx.bkey {c : Nat} {l : List KR} {I : List Pr} (h : Idx c l I) (hl : RowsOk l) : ∀ q ∈ I, keyB (q.1.drop 8) = true := fun q hq => by
  obtain ⟨x, hx, rfl⟩ := h.mem.1 hq
  unfold entC
  dsimp only
  rw [entB_drop]
  exact hl.key x hx
theorem keysOf_len (S : List Pr) : (keysOf S).length = S.length := List.length_map _
theorem seq_len (I : List Pr) (hi : List Nat) (j : Nat) : (seq I hi j).length ≤ I.length := by
  unfold seq
  have := endN_le I hi
  simp; omega
set_option maxHeartbeats 4000000 in
theorem tfind_ok {w : World} {T : Nat} {p : Nat → Nat} {Q : Bl} {most o : Nat} {J : Nat → List Pr} {l : List KR} (hT : TabI w T p Q most o J) (hok : TOk l J) (hlen : l.length ≤ 1024) (c : Nat) (hc : c < 4) (lo hi : Int) (m : Nat) (hl : I64 lo) (hh : I64 hi) (h : lo ≤ hi) (hm : m ≤ 9223372036854775807) :
    Calls Try.prog 15 #[.pointer (some ⟨T, 0, none⟩), .int .i64 (c : Int), .int .i64 lo, .int .i64 hi, .int .i64 (m : Int)] w (FindEnd w (findK (J c) lo hi m)) := by
  have h1 : ¬ (c : Int) < 0 := by omega
  have h2 : ¬ (4 : Int) ≤ c := by omega
  have h3 : (c : Int) < 5 := by omega
  have h4 : (0 : Int) ≤ (c : Int) := by omega
  have h5 : ¬ (m : Int) < 0 := by omega
  have HBA : Hid (Below w.heap.size w (w.alloc (.cells #[.int .i64 (m : Int)] 3))) := (Below.refl _ _).alloc (Nat.le_refl _) _
  have HQ0 := hid (One.new w 3 (.int .i64 (m : Int)))
  have HT := hid hT
  have HIDX := hid (hok.idx c hc)
  have HROWS := hid hok.rows
  obtain ⟨I, HI⟩ : ∃ I, Hid (I = J c) := ⟨_, rfl⟩
  have HTR : Hid (TreeAt w (p c) o I Q) := by rw [HI.out]; exact hT.t c (by omega)
  have HIL : Hid (I.length ≤ 5000) := by show _ ≤ _; rw [HI.out, hok.len (by omega)]; omega
  rw [← HI.out] at HIDX ⊢
  have HKY := hid (HIDX.out.keyed hok.rows)
  have HKK := hid (HIDX.out.bkey hok.rows)
  have hmf := hmf
  have hpl := hT.plt (i := c) (by omega)
  have HUN := hid hT.under
  clear hT hok
  refine (callsIn_wide (n := 3)).1 ?_
  refine callsIn_of_wp_marks Try.func15 rfl trivial ?_ rfl
  simp only [Try.ntmps15, List.size_toArray, List.length_cons, List.length_nil, Nat.reduceAdd, Nat.reduceSub, Array.replicate_succ, Array.replicate_zero, List.push_toArray, List.append_toArray, List.nil_append, List.cons_append]
  refine wpIn_wide.2 ?_
  go_wp2_with fail
  refine (bounds_ok _ lo hi hl hh h).mono ?_
  rintro e w1 ⟨rfl, hb1⟩
  have HB1 := hid (below_step HBA.out hb1)
  have HQ1 := hid (HQ0.out.keep (hb1.block _ HQ0.out.lt))
  have q0 := HQ1.out.cell
  have cc := (HT.out.below HB1.out).cp (i := c) (by omega)
  clear hb1
  go_wp2_with fail
  refine (new_ok w1 (p c) (wv lo) (toB hi) (wv_byt _) (toB_byt _) (by rw [wv_len]; omega) (by have := toB_len hi; omega) (toB_lo hl hh h)).mono ?_
  rintro e w2 ⟨cu, rfl, hb2, hcu, hcur⟩
  have HB2 := hid (below_step HB1.out hb2)
  have HCUR := hid hcur
  have hcl := hcur.lt
  have HQ2 := hid (HQ1.out.keep (hb2.block _ HQ1.out.lt))
  have hs1 := HB1.out.size
  have hs1' := HQ1.out.lt
  obtain ⟨w3, HW3⟩ : ∃ W, Hid (W = w2.alloc (.cells #[.slice none 0 0] 41)) := ⟨_, rfl⟩
  clear hb2 hcur q0 cc
  go_wp2_with fail
  rw [← HW3.out]
  have HB3 : Hid (Below w2.heap.size w2 w3) := by rw [HW3.out]; exact (Below.refl _ _).alloc (Nat.le_refl _) _
  have HONE3 : Hid (One w3 w2.heap.size 41 (.slice none 0 0)) := by rw [HW3.out]; exact One.new w2 _ _
  have HBW3 := hid (below_step HB2.out HB3.out)
  have hca : cu ≠ p c := by omega
  have hcP : ¬ Q cu := fun h => by have := HUN.out cu h; omega
  refine (found_walks w3 cu (p c) o (wv lo) (toB hi) (wv lo) I Q (HCUR.out.below HB3.out) (HTR.out.below HBW3.out) hca hcP HIL.out HKY.out HKK.out (toB_byt _) (wv_byt _)).mono ?_
  rintro e w4 ⟨gf, lb, G, rfl, hb4, hen, hGl, hGc, hGw, hgv⟩
  have HB4 := hid hb4
  have HONE4 := hid (HONE3.out.keep (hb4.block _ HONE3.out.lt))
  have HQ4 := hid ((HQ2.out.keep (HB3.out.block _ HQ2.out.lt)).keep (hb4.block _ (Nat.lt_of_lt_of_le HQ2.out.lt HB3.out.size)))
  have hbl4 : w2.heap.size < w4.heap.size := HONE4.out.lt
  have HAB := hid (collF_abide (w3 := w4) (bl := w2.heap.size) (bm := w.heap.size) (c := cu) (most := m) hbl4 (by omega) HQ4.out.lt (by omega))
  have hnG : ¬ G w2.heap.size := fun h => by
    have hh1 := HB2.out.size
    have hh2 := HB3.out.size
    rcases hGw _ h with h | h | h | h
    · omega
    · omega
    · have := HUN.out _ h; omega
    · have := HONE3.out.lt; omega
  obtain ⟨L, HL⟩ : ∃ L, Hid (L = keysOf (seq I (toB hi) (atN I (wv lo)))) := ⟨_, rfl⟩
  have HLL : Hid (L.length ≤ 5000) := by
    show _ ≤ _
    rw [HL.out, keysOf_len]
    exact Nat.le_trans (seq_len _ _ _) HIL.out
  rw [← HL.out] at hgv
  have HRES : Hid (findK I lo hi m = L.take m) := by show _ = _; unfold findK; rw [HL.out]
  rw [HRES.out]
  clear hb4
  go_wp2
  refine (wpIn_wide (n := 3)).1 ?_
  refine range_ownM (gf := gf) (lb := lb) rfl hen hgv (w0 := w4) (Stay.refl _ _) (fun _ => rfl) (CollF w4 w2.heap.size w.heap.size cu m) (fun cd xs K W => cd = .exit 1 ∧ m < xs.length ∧ CollF w4 w2.heap.size w.heap.size cu m xs K W) (fun b h => h ▸ hGc) HAB.out (fun cd s K A A' row hi hg hr K' hK' => ⟨hi.1, hi.2.1, HAB.out s K A A' row hi.2.2 hg hr K' hK'⟩) G (fun _ h => h) hGl
    ⟨HQ4.out.cell, (Chg.refl _ _), _, HONE4.out, by rw [List.take_nil]; exact OwnElems.nil _ _ _ _ _, hnG, by simp [ownFoot, Value.ownBlock]⟩ ?round ?done ?stop
  case stop =>
    rintro D cd pre K W hpre ⟨rfl, hlt, h0, hcw, v, hone, hown, _, hkr⟩ _ hKD hD hK
    have HRE : Hid (pre.take m = L.take m) := by
      obtain ⟨t, ht⟩ := hpre
      show _ = _
      rw [← ht, List.take_append_of_le_length (by omega)]
    have HCW := hid hcw
    have HOW := hid hown
    have HKR := hid hkr
    have HKD := hid hKD
    have HDD := hid hD
    have HSH := hid hK
    have qp := hone.cell
    clear hcw hown hkr hKD hD hK hone h0 hpre
    gi_wp2
    go_wp2
    refine ⟨by simp, .inl ⟨_, _, rfl, run_takeDeferred HSH.out, ?_⟩⟩
    have hD' : w.heap.size ≤ D := by have := HDD.out; have := HBW3.out.size; have := HB4.out.size; omega
    have hbw : Below w.heap.size w W := by
      have h1 : Chg [] w w4 [w2.heap.size, cu] := (Chg.of_below (F := []) (below_step HBW3.out HB4.out)).less fun k hk => by
        simp at hk
        rcases hk with rfl | rfl
        · exact .inr HB2.out.size
        · exact .inr (by omega)
      exact (h1.trans HCW.out).below (fun _ h => by cases h) (Nat.le_refl _)
    refine ⟨.tuple #[v, .int .i64 0], ?_, v, rfl, ?_, ?_⟩
    · simp [results, Try.f15, go_sem]
    · rw [HRES.out, ← HRE.out]
      refine OwnElems.down_ (HOW.out.keep fun b hb => World.putObj_heap_other fun e => HKR.out b hb ?_) (by have := HBW3.out.size; have := HB4.out.size; omega)
      rw [e]; exact HKD.out
    · exact hbw.trans (belowK_b (w := w) (Nat.le_refl _) _ D _ _ hD' HSH.out rfl rfl)
  case round =>
    rintro lq pre x K W mm hI hKW hKl hlq hpre
    unfold encS
    gi_wp2
    refine ⟨Stay.refl _ _, fun W2 hg2 => ?_⟩
    obtain ⟨h0, hc2, v, hone, hown, hkp, hkr⟩ := HAB.out pre K W W2 (some lq) hI hg2 (fun r e => by injection e with e; subst e; exact ⟨.inl hlq, hKl⟩) K fun b h => .inl h
    have HW2 : Hid (W.heap.size ≤ W2.heap.size) := hg2.size
    clear hI hg2
    obtain ⟨Av, nv, cv, rfl⟩ := hown.rows.form
    have hnv := hown.rows.cap.1
    have HONE := hid hone
    have HOWN := hid hown
    have HC2 := hid hc2
    have HNV := hid hnv
    have HM0 := hid h0
    have qp := hone.cell
    have qf := hone.frozen
    have hpl : pre.length + 1 ≤ 5000 := by
      have h1 := hpre.length_le
      have h2 := HLL.out
      simp at h1
      omega
    clear hc2 hone hown hnv
    refine wpIn_block ?_
    refine wpIn_seq_k fun KK hKK => ?_
    by_cases hcase : m ≤ pre.length
    · have hnm : nv = m := by have := HNV.out; simp at this; omega
      subst hnm
      clear hKK
      gi_wp2
      dsimp only [Exit.inBlock, Exit.then, postB]
      refine ⟨Stay.refl _ _, rfl, by simp; omega, HM0.out, HC2.out, _, HONE.out, ?_, hkp, hkr⟩
      have h2 := HOWN.out
      rwa [show (pre ++ [x]).take nv = pre.take nv from List.take_append_of_le_length hcase]
    · have HNE : Hid (nv = pre.length) := by have := HNV.out; simp at this; show _ = _; omega
      have hni : ¬ (nv : Int) = (m : Int) := by have := HNE.out; omega
      have hKK' := hid hKK
      clear hKK
      gi_wp2
      refine hKK'.out _ _ ?_
      have HOWP : Hid (OwnElems 1 cT 9 W2 w4.heap.size (.slice Av nv cv) pre) := by
        have h2 := HOWN.out
        rwa [List.take_of_length_le (by omega)] at h2
      have HTP : Hid ((pre ++ [x]).take m = pre ++ [x]) := List.take_of_length_le (by simp; omega)
      obtain ⟨ip, hip, hzp, hsp, hyp⟩ := info_parts info_text
      clear hni
      refine region_in_round_list (by kernel_rfl) (fun _ _ h => h) ?_
      go_wp2_with (at_builtin; refine wpList_append_rows _ rfl (.tmp 64) (.tmp 66) 41 rfl w4.heap.size 9 ip _ 1 16 Try.underlying41 hip hzp hsp hyp rfl (by omega) cT_one _ _ rfl (HOWP.out.alloc _) _ [x] rfl (rows_new _ 1 cT cT_len x _) ?h63 ?hby ?hba ?_; (case h63 => (simp [maxLen]; omega)); (case hby => (simp; omega)); (case hba => (have := HC2.out.size; simp; omega)); intro v2 w5 ho4 hg4 hf4; obtain ⟨A2, n2, cc2, rfl⟩ := ho4.rows.form; have HO4 := hid ho4; have HG4 := hid hg4; have HF4 := hid hf4; have HONE4' : Hid (One w5 w2.heap.size 41 (.slice Av nv cv)) := (One.keep (One.alloc HONE.out _) (hg4.block _ (by have := HONE.out.lt; simp; omega) (fun e => by have := (HOWP.out.lt _ (mem_ownFoot.2 e.symm)).1; omega))); have qp := HONE4'.out.cell; have qf := HONE4'.out.frozen; clear ho4 hg4 hf4)
      dsimp only [Exit.inBlock, postB]
      have hne : w2.heap.size ∉ ownFoot (.slice A2 n2 cc2) := fun h => by have := (HO4.out.lt _ h).1; omega
      have hW4 := HG4.out.size
      have hbW := HONE.out.lt
      refine ⟨⟨?_, fun b hb => ?_⟩, ?_, ?_, _, HONE4'.out.set _, ?_, hkp, fun b hb hKb => ?_⟩
      · simp [World.setCell] at hW4 ⊢; omega
      · have hbl : b < W2.heap.size := Nat.lt_of_lt_of_le (hKW b hb) HW2.out
        have h1 : b ≠ w2.heap.size := fun e => hkp (e ▸ hb)
        refine (Below.heap_setCell _ _ _ _ h1).trans ((HG4.out.block b (by simp; omega) fun e => hkr b (mem_ownFoot.2 e.symm) hb).trans (Below.heap_alloc _ _ _ hbl))
      · have hq1 : w.heap.size < W2.heap.size := blk_lt HM0.out
        have hqm : w.heap.size ≠ w2.heap.size := by have := HQ2.out.lt; omega
        refine (World.cell?_of_block ?_).trans HM0.out
        refine (Below.heap_setCell _ _ _ _ hqm).trans ((HG4.out.block _ (by simp; omega) fun e => ?_).trans (Below.heap_alloc _ _ _ hq1))
        have h9 : w4.heap.size ≤ w.heap.size := (HOWP.out.lt _ (mem_ownFoot.2 e.symm)).1
        have := HQ4.out.lt
        omega
      · have hs3 := HC2.out.size
        refine ⟨HG4.out.os.trans HC2.out.os, HG4.out.tape.trans HC2.out.tape, HG4.out.output.trans HC2.out.output, by simp [World.setCell] at hW4 ⊢; omega, fun k hk hn => ?_, fun k hk => .inl hk⟩
        refine (Below.heap_setCell _ _ _ _ (fun e => hn (by rw [e]; simp))).trans ((HG4.out.block k (by simp; omega) fun e => ?_).trans ((Below.heap_alloc _ _ _ (by omega)).trans (HC2.out.block k hk hn)))
        have := (HOWP.out.lt k (mem_ownFoot.2 e.symm)).1
        omega
      · rw [HTP.out]
        exact HO4.out.keep fun b hb => Below.heap_setCell _ _ _ _ (fun e => hne (by rw [e] at hb; exact hb))
      · rcases HF4.out b hb with h | h
        · exact hkr b h hKb
        · have h1 := hKW b hKb
          have h2 := HW2.out
          simp at h
          omega
  case done =>
    rintro D Kd W ⟨h0, hcw, v, hone, hown, _, hkr⟩ _ hKD hD hK
    have HCW := hid hcw
    have HOW := hid hown
    have HKR := hid hkr
    have HKD := hid hKD
    have HDD := hid hD
    have HSH := hid hK
    have qp := hone.cell
    clear hcw hown hkr hKD hD hK hone h0
    go_wp2
    refine ⟨by simp, .inl ⟨_, _, rfl, run_takeDeferred HSH.out, ?_⟩⟩
    have hD' : w.heap.size ≤ D := by have := HDD.out; have := HBW3.out.size; have := HB4.out.size; omega
    have hbw : Below w.heap.size w W := by
      have h1 : Chg [] w w4 [w2.heap.size, cu] := (Chg.of_below (F := []) (below_step HBW3.out HB4.out)).less fun k hk => by
        simp at hk
        rcases hk with rfl | rfl
        · exact .inr HB2.out.size
        · exact .inr (by omega)
      exact (h1.trans HCW.out).below (fun _ h => by cases h) (Nat.le_refl _)
    refine ⟨.tuple #[v, .int .i64 0], ?_, v, rfl, ?_, ?_⟩
    · simp [results, Try.f15, go_sem]
    · rw [HRES.out]
      refine OwnElems.down_ (HOW.out.keep fun b hb => World.putObj_heap_other fun e => HKR.out b hb ?_) (by have := HBW3.out.size; have := HB4.out.size; omega)
      rw [e]; exact HKD.out
    · exact hbw.trans (belowK_b (w := w) (Nat.le_refl _) _ D _ _ hD' HSH.out rfl rfl)
end Go.Proofs.Ytlnagdodnkhbmaa
